/-
  TokenKnown walked.
-/
import Derived.Test.YteafnknghnhlgaaDoorTokenAwake
import Derived.Test.YteafnknghnhlgaaDoorCuts
import Derived.Test.YteafnknghnhlgaaDoorBaseC
namespace Go.Proofs.YteafnknghnhlgaaDoor.TokenL
open Go.RowKit Base Pack _root_.Go.Proofs.YteafnknghnhlgaaDoor.Token

abbrev KEY : List UInt8 := [107, 101, 121]
abbrev BODY : List UInt8 := [98, 111, 100, 121]
def ENV : List UInt8 := env 258 KEY BODY
def ENVY : List UInt8 := ENV.set 37 122
def ENVZ : List UInt8 := ENV.set 1 3
theorem env_len : ENV.length = 38 := env_length 258 KEY BODY
theorem env_at0 : ENV.getD 0 0 = 1 := rfl
theorem env_at1 : ENV.getD 1 0 = 2 := rfl
theorem env_at37 : ENV.getD 37 0 = 121 := by decide +kernel
theorem no_out {b k : List UInt8} {id er : Int} (h : openErr b id k = er) (he : er ≠ 0) : openErr b id k = er ∧ openOut b id k = [] := ⟨h, openOut_no (by rw [h]; exact he)⟩
theorem e_own : openErr ENV 258 KEY = 0 ∧ openOut ENV 258 KEY = BODY := open_own (n := 258) (by decide) KEY BODY
theorem e_kez : openErr ENV 258 [107, 101, 122] = 5 ∧ openOut ENV 258 [107, 101, 122] = [] := no_out (by decide +kernel) (by decide)
theorem e_259 : openErr ENV 259 KEY = 5 ∧ openOut ENV 259 KEY = [] := no_out (open_other (n := 258) (by decide) KEY BODY 259 (by decide) KEY) (by decide)
theorem e_m5 : openErr ENV (-5) KEY = 5 ∧ openOut ENV (-5) KEY = [] := no_out (open_other (n := 258) (by decide) KEY BODY (-5) (by decide) KEY) (by decide)
theorem e_33 : openErr (ENV.take 33) 258 KEY = 2 ∧ openOut (ENV.take 33) 258 KEY = [] := no_out (by unfold openErr; rw [if_pos (by rw [List.length_take, env_len]; decide)]) (by decide)
theorem e_y : openErr ENVY 258 KEY = 5 ∧ openOut ENVY 258 KEY = [] := no_out (by decide +kernel) (by decide)
theorem e_z : openErr ENVZ 259 KEY = 5 ∧ openOut ENVZ 259 KEY = [] := no_out (by decide +kernel) (by decide)
set_option maxRecDepth 100000 in
set_option maxHeartbeats 8000000 in
theorem tokenKnown_walk (w : World) (hR : Laid w) : Calls Tryd.prog 3 #[] w fun e w' => e = .returned (.bool true) ∧ Fr0 w w' := by
  have HR := Lib.hid hR
  clear hR
  have kc := fun (w : World) (C : Array Value) (n c : Nat) => Lib.run_convert_bytes_const (P := Tryd.prog) w 23 5 C n c Tryd.underlying23 Tryd.underlying5
  have kc2 : ∀ (w : World) (o : Obj) (C : Array Value) (n c : Nat), (convert 23 23 (.slice (some ⟨w.heap.size + 1, 0, none⟩) n c)).run Tryd.prog ((w.alloc o).alloc (.cells C 5)) = .ok (.slice (some ⟨w.heap.size + 1, 0, none⟩) n c) ((w.alloc o).alloc (.cells C 5 (C.size, C.size + 1))) := fun w o C n c => by
    have := kc (w.alloc o) C n c
    rwa [World.size_alloc] at this
  go_enter Tryd.func3, Tryd.ntmps3
  go_wp2_with fail
  refine (awake_any _ HR.out).mono ?_
  rintro e w1 ⟨rfl, hF1⟩
  have HF1 := Lib.hid hF1
  have hse := seal_bad (id := -1) (.inl (by decide)) (by decide) (.slice none 0 0) (.slice none 0 0) [] [] (by decide) (by decide) w1 (BytesIs.nil _) (BytesIs.nil _) (HR.out.fr HF1.out)
  clear hF1
  go_wp2_with fail
  refine hse.mono ?_
  clear hse
  rintro e w2 ⟨A1, C1, rfl, hF⟩
  have HF2 := Lib.hid (HF1.out.trans' hF)
  have hse := seal_bad (id := 65536) (.inr (by decide)) (by decide) (.slice none 0 0) (.slice none 0 0) [] [] (by decide) (by decide) w2 (BytesIs.nil _) (BytesIs.nil _) (HR.out.fr HF2.out)
  clear hF HF1
  go_wp2_with fail
  refine hse.mono ?_
  clear hse
  rintro e w3 ⟨A2, C2, rfl, hF⟩
  have HF3 := Lib.hid (HF2.out.trans' hF)
  clear hF HF2
  have hL := (Fr.refl (fun _ => False) w3).alloc (.cells #[.int .u8 107, .int .u8 101, .int .u8 121] 5 (3, 4))
  have HL := Lib.hid (HF3.out.trans' hL)
  have hk := lit_mark w3 [107, 101, 121] #[.int .u8 107, .int .u8 101, .int .u8 121] 5 (3, 4) 3 rfl 3 (Nat.le_refl _) rfl w3.heap.size rfl
  have hL4 := (Fr.refl (fun _ => False) (w3.alloc (.cells #[.int .u8 107, .int .u8 101, .int .u8 121] 5 (3, 4)))).alloc (.cells #[.int .u8 98, .int .u8 111, .int .u8 100, .int .u8 121] 5 (4, 5))
  have HL4 := Lib.hid (HL.out.trans' hL4)
  have hb4 := lit_mark (w3.alloc (.cells #[.int .u8 107, .int .u8 101, .int .u8 121] 5 (3, 4))) [98, 111, 100, 121] #[.int .u8 98, .int .u8 111, .int .u8 100, .int .u8 121] 5 (4, 5) 4 rfl 4 (Nat.le_refl _) rfl (w3.heap.size + 1) (by simp)
  have hse := seal_yes (n := 258) (by decide) _ _ KEY BODY (by decide) (by decide) _ (hk.fr0 hL4) hb4 (HR.out.fr HL4.out)
  clear hL hk hL4 hb4 HL
  go_wp2_with fail
  refine hse.mono ?_
  clear hse
  rintro e w4 ⟨A, C, rfl, hX, _, hF⟩
  have hX : BytesIs w4 (.slice A 38 C) ENV := hX
  have HF4 := Lib.hid (HL4.out.trans' hF)
  have HX4 := Lib.hid hX
  have hcap : 38 ≤ C := by obtain ⟨_, _, _, _, he, h1, _⟩ := hX; simp only [Value.slice.injEq] at he; rw [env_len] at he h1; omega
  have hs33 := fun wx : World => cut_hi_at (P := Tryd.prog) 23 5 Tryd.underlying23 (by kernel_rfl) A 38 C 33 (by omega) wx
  clear hX hF HL4
  have hL := (Fr.refl (fun _ => False) w4).alloc (.cells #[.int .u8 107, .int .u8 101, .int .u8 121] 5 (3, 4))
  have HL := Lib.hid (HF4.out.trans' hL)
  have hk := lit_mark w4 [107, 101, 121] #[.int .u8 107, .int .u8 101, .int .u8 121] 5 (3, 4) 3 rfl 3 (Nat.le_refl _) rfl w4.heap.size rfl
  have hop := open_is e_own.1 e_own.2 (.slice A 38 C) _ (by decide) (by decide) (by rw [env_len]; decide) _ (HX4.out.fr0 hL) hk (HR.out.fr HL.out)
  clear hL hk
  go_wp2_with fail
  refine hop.mono ?_
  clear hop
  rintro e w5 ⟨Ao1, Co1, rfl, hC1, hF⟩
  have hg := ((Fr.refl (fun _ => False) w4).alloc (.cells #[.int .u8 107, .int .u8 101, .int .u8 121] 5 (3, 4))).trans' hF
  have HF5 := Lib.hid (HF4.out.trans' hg)
  have HG1 := Lib.hid hg
  clear hF hg HL
  have HX5 := Lib.hid (HX4.out.fr0 HG1.out)
  have HC5 : Hid (BytesIs w5 (.slice Ao1 4 Co1) BODY) := Lib.hid hC1
  clear hC1
  have hL := (Fr.refl (fun _ => False) w5).alloc (.cells #[.int .u8 107, .int .u8 101, .int .u8 122] 5 (3, 4))
  have HL := Lib.hid (HF5.out.trans' hL)
  have hk := lit_mark w5 [107, 101, 122] #[.int .u8 107, .int .u8 101, .int .u8 122] 5 (3, 4) 3 rfl 3 (Nat.le_refl _) rfl w5.heap.size rfl
  have hop := open_is e_kez.1 e_kez.2 (.slice A 38 C) _ (by decide) (by decide) (by rw [env_len]; decide) _ (HX5.out.fr0 hL) hk (HR.out.fr HL.out)
  clear hL hk
  go_wp2_with fail
  refine hop.mono ?_
  clear hop
  rintro e w6 ⟨Ao2, Co2, rfl, hC2, hF⟩
  have hg := ((Fr.refl (fun _ => False) w5).alloc (.cells #[.int .u8 107, .int .u8 101, .int .u8 122] 5 (3, 4))).trans' hF
  have HF6 := Lib.hid (HF5.out.trans' hg)
  have HG2 := Lib.hid hg
  clear hF hg HL
  have HX6 := Lib.hid (HX5.out.fr0 HG2.out)
  have HC6 := Lib.hid (HC5.out.fr0 HG2.out)
  clear hC2
  have hL := (Fr.refl (fun _ => False) w6).alloc (.cells #[.int .u8 107, .int .u8 101, .int .u8 121] 5 (3, 4))
  have HL := Lib.hid (HF6.out.trans' hL)
  have hk := lit_mark w6 [107, 101, 121] #[.int .u8 107, .int .u8 101, .int .u8 121] 5 (3, 4) 3 rfl 3 (Nat.le_refl _) rfl w6.heap.size rfl
  have hop := open_is e_259.1 e_259.2 (.slice A 38 C) _ (by decide) (by decide) (by rw [env_len]; decide) _ (HX6.out.fr0 hL) hk (HR.out.fr HL.out)
  clear hL hk
  go_wp2_with fail
  refine hop.mono ?_
  clear hop
  rintro e w7 ⟨Ao3, Co3, rfl, hC3, hF⟩
  have hg := ((Fr.refl (fun _ => False) w6).alloc (.cells #[.int .u8 107, .int .u8 101, .int .u8 121] 5 (3, 4))).trans' hF
  have HF7 := Lib.hid (HF6.out.trans' hg)
  have HG3 := Lib.hid hg
  clear hF hg HL
  have HX7 := Lib.hid (HX6.out.fr0 HG3.out)
  have HC7 := Lib.hid (HC6.out.fr0 HG3.out)
  have HP7 : Hid (BytesIs w7 (.slice A 33 C) (ENV.take 33)) := Lib.hid (BytesIs.takeHi (n := 33) (by rw [env_len]; decide) (by rw [env_len]; exact HX7.out))
  clear hC3
  have hL := (Fr.refl (fun _ => False) w7).alloc (.cells #[.int .u8 107, .int .u8 101, .int .u8 121] 5 (3, 4))
  have HL := Lib.hid (HF7.out.trans' hL)
  have hk := lit_mark w7 [107, 101, 121] #[.int .u8 107, .int .u8 101, .int .u8 121] 5 (3, 4) 3 rfl 3 (Nat.le_refl _) rfl w7.heap.size rfl
  have hop := open_is e_33.1 e_33.2 (.slice A 33 C) _ (by decide) (by decide) (by rw [List.length_take, env_len]; decide) _ (HP7.out.fr0 hL) hk (HR.out.fr HL.out)
  clear hL hk
  go_wp2_with fail
  refine hop.mono ?_
  clear hop
  rintro e w8 ⟨Ao4, Co4, rfl, hC4, hF⟩
  have hg := ((Fr.refl (fun _ => False) w7).alloc (.cells #[.int .u8 107, .int .u8 101, .int .u8 121] 5 (3, 4))).trans' hF
  have HF8 := Lib.hid (HF7.out.trans' hg)
  have HG4 := Lib.hid hg
  clear hF hg HL
  have HX8 := Lib.hid (HX7.out.fr0 HG4.out)
  have HC8 := Lib.hid (HC7.out.fr0 HG4.out)
  have HP8 := Lib.hid (HP7.out.fr0 HG4.out)
  clear hC4
  go_wp2_with (refine wpList_append_bytes rfl (.tmp 75) (.tmp 76) 23 rfl w8.heap.size 5 Tryd.underlying23 Pack.info8 _ _ 0 [] ENV rfl rfl (owns_empty w8 w8.heap.size _ (Nat.le_refl _) _ rfl) ((by have h := HX8.out.fr0 ((Fr.refl (fun _ => False) w8).alloc (.cells #[] 5)); exact h)) (by rw [env_len]; decide) ((Fr.refl (fun _ => False) _).alloc _).size ?_)
  intro vs1 ws1 hO hG
  have hFs : Fr0 w8 ws1 := ((Fr.refl _ _).alloc _).grown hG (fun k hk e => by cases e; exact absurd hk (Nat.lt_irrefl _))
  have hO' : ws1.ownsRow w8.heap.size 5 1 vs1 38 (bvals ENV) := hO
  have hBs := BytesIs.own hO'
  obtain ⟨h0, ⟨rfl, h00⟩ | ⟨gz1, cap1, cur, rfl, hgb, hgc, _⟩⟩ := hO'
  · exfalso; omega
  have hd6 : ws1.frozen? ⟨gz1, 37, none⟩ = false := by simp [World.frozen?, hgc]
  have hB7 : BytesIs (ws1.setCell ⟨gz1, 37, none⟩ (.int .u8 122)) (.slice (some ⟨gz1, 0, none⟩) 38 cap1) ENVY := hBs.set 37 (by rw [env_len]; decide) 122 (.int .u8 122) rfl
  have hc6 : ws1.cell? ⟨gz1, 37, none⟩ = some (.int .u8 121) := by
    obtain ⟨a, c, pb, po, hv, _, ha, hcell⟩ := hBs
    have h := hcell 37 (by rw [env_len]; decide)
    have h2 := ha (by rw [env_len]; decide)
    subst h2
    simp only [Value.slice.injEq, Option.some.injEq, Addr.mk.injEq, and_true] at hv
    obtain ⟨⟨rfl, rfl⟩, _, _⟩ := hv
    rw [Nat.zero_add] at h
    rw [h, env_at37]
    rfl
  have hF7 : Fr0 w8 (ws1.setCell ⟨gz1, 37, none⟩ (.int .u8 122)) := hFs.setCell (p := ⟨gz1, 37, none⟩) (fun h => by have h' : gz1 < w8.heap.size := h; omega) _
  have HFY : Hid (Fr0 w (ws1.setCell ⟨gz1, 37, none⟩ (.int .u8 122))) := Lib.hid (HF8.out.trans' hF7)
  have HW1 : Hid (Fr0 w8 (ws1.setCell ⟨gz1, 37, none⟩ (.int .u8 122))) := Lib.hid hF7
  have HS1 := Lib.hid hB7
  have hgc' : ∃ x, ws1.heap[gz1]? = some x := ⟨_, hgc⟩
  clear hO hG hFs hBs hgc hB7 hF7 h0 hgb
  obtain ⟨wy, hwz⟩ : ∃ W, W = ws1.setCell ⟨gz1, 37, none⟩ (.int .u8 122) := ⟨_, rfl⟩
  have HWZ := Lib.hid hwz
  rw [← hwz] at HFY HW1 HS1
  go_upto_region 13 with fail
  go_upto_region 14 with fail
  rw [← HWZ.out]
  clear hc6 hd6 hgc' hwz HWZ
  have hL := (Fr.refl (fun _ => False) wy).alloc (.cells #[.int .u8 107, .int .u8 101, .int .u8 121] 5 (3, 4))
  have HL := Lib.hid (HFY.out.trans' hL)
  have hk := lit_mark wy [107, 101, 121] #[.int .u8 107, .int .u8 101, .int .u8 121] 5 (3, 4) 3 rfl 3 (Nat.le_refl _) rfl wy.heap.size rfl
  have hop := open_is e_y.1 e_y.2 (.slice (some ⟨gz1, 0, none⟩) 38 cap1) _ (by decide) (by decide) (by unfold ENVY; rw [List.length_set, env_len]; decide) _ (HS1.out.fr0 hL) hk (HR.out.fr HL.out)
  clear hL hk
  go_wp2_with fail
  refine hop.mono ?_
  clear hop
  rintro e w9 ⟨Ao5, Co5, rfl, hC5, hF⟩
  have hg := ((Fr.refl (fun _ => False) wy).alloc (.cells #[.int .u8 107, .int .u8 101, .int .u8 121] 5 (3, 4))).trans' hF
  have HF9 := Lib.hid (HFY.out.trans' hg)
  have HG5 := Lib.hid hg
  clear hF hg HL
  have hg := HW1.out.trans' HG5.out
  have HX9 := Lib.hid (HX8.out.fr0 hg)
  have HC9 := Lib.hid (HC8.out.fr0 hg)
  have HP9 := Lib.hid (HP8.out.fr0 hg)
  clear hC5 hg
  go_wp2_with (refine wpList_append_bytes rfl (.tmp 87) (.tmp 88) 23 rfl w9.heap.size 5 Tryd.underlying23 Pack.info8 _ _ 0 [] ENV rfl rfl (owns_empty w9 w9.heap.size _ (Nat.le_refl _) _ rfl) ((by have h := HX9.out.fr0 ((Fr.refl (fun _ => False) w9).alloc (.cells #[] 5)); exact h)) (by rw [env_len]; decide) ((Fr.refl (fun _ => False) _).alloc _).size ?_)
  intro vs2 ws2 hO hG
  have hFs : Fr0 w9 ws2 := ((Fr.refl _ _).alloc _).grown hG (fun k hk e => by cases e; exact absurd hk (Nat.lt_irrefl _))
  have hO' : ws2.ownsRow w9.heap.size 5 1 vs2 38 (bvals ENV) := hO
  have hBs := BytesIs.own hO'
  obtain ⟨h0, ⟨rfl, h00⟩ | ⟨gz2, cap2, cur, rfl, hgb, hgc, _⟩⟩ := hO'
  · exfalso; omega
  have hd6 : ws2.frozen? ⟨gz2, 1, none⟩ = false := by simp [World.frozen?, hgc]
  have hB7 : BytesIs (ws2.setCell ⟨gz2, 1, none⟩ (.int .u8 3)) (.slice (some ⟨gz2, 0, none⟩) 38 cap2) ENVZ := hBs.set 1 (by rw [env_len]; decide) 3 (.int .u8 3) rfl
  have hc6 : ws2.cell? ⟨gz2, 1, none⟩ = some (.int .u8 2) := by
    obtain ⟨a, c, pb, po, hv, _, ha, hcell⟩ := hBs
    have h := hcell 1 (by rw [env_len]; decide)
    have h2 := ha (by rw [env_len]; decide)
    subst h2
    simp only [Value.slice.injEq, Option.some.injEq, Addr.mk.injEq, and_true] at hv
    obtain ⟨⟨rfl, rfl⟩, _, _⟩ := hv
    rw [Nat.zero_add] at h
    rw [h, env_at1]
    rfl
  have hF7 : Fr0 w9 (ws2.setCell ⟨gz2, 1, none⟩ (.int .u8 3)) := hFs.setCell (p := ⟨gz2, 1, none⟩) (fun h => by have h' : gz2 < w9.heap.size := h; omega) _
  have HFZ : Hid (Fr0 w (ws2.setCell ⟨gz2, 1, none⟩ (.int .u8 3))) := Lib.hid (HF9.out.trans' hF7)
  have HW2 : Hid (Fr0 w9 (ws2.setCell ⟨gz2, 1, none⟩ (.int .u8 3))) := Lib.hid hF7
  have HS2 := Lib.hid hB7
  have hgc' : ∃ x, ws2.heap[gz2]? = some x := ⟨_, hgc⟩
  clear hO hG hFs hBs hgc hB7 hF7 h0 hgb
  obtain ⟨wz, hwz⟩ : ∃ W, W = ws2.setCell ⟨gz2, 1, none⟩ (.int .u8 3) := ⟨_, rfl⟩
  have HWZ := Lib.hid hwz
  rw [← hwz] at HFZ HW2 HS2
  go_upto_region 16 with fail
  go_upto_region 17 with fail
  rw [← HWZ.out]
  clear hc6 hd6 hgc' hwz HWZ
  have hL := (Fr.refl (fun _ => False) wz).alloc (.cells #[.int .u8 107, .int .u8 101, .int .u8 121] 5 (3, 4))
  have HL := Lib.hid (HFZ.out.trans' hL)
  have hk := lit_mark wz [107, 101, 121] #[.int .u8 107, .int .u8 101, .int .u8 121] 5 (3, 4) 3 rfl 3 (Nat.le_refl _) rfl wz.heap.size rfl
  have hop := open_is e_z.1 e_z.2 (.slice (some ⟨gz2, 0, none⟩) 38 cap2) _ (by decide) (by decide) (by unfold ENVZ; rw [List.length_set, env_len]; decide) _ (HS2.out.fr0 hL) hk (HR.out.fr HL.out)
  clear hL hk
  go_wp2_with fail
  refine hop.mono ?_
  clear hop
  rintro e wa ⟨Ao6, Co6, rfl, hC6, hF⟩
  have hg := ((Fr.refl (fun _ => False) wz).alloc (.cells #[.int .u8 107, .int .u8 101, .int .u8 121] 5 (3, 4))).trans' hF
  have HFA := Lib.hid (HFZ.out.trans' hg)
  have HG6 := Lib.hid hg
  clear hF hg HL
  have hg := HW2.out.trans' HG6.out
  have HXA := Lib.hid (HX9.out.fr0 hg)
  have HCA := Lib.hid (HC9.out.fr0 hg)
  have HPA := Lib.hid (HP9.out.fr0 hg)
  clear hC6 hg
  have hpi := pid_any (.slice A 33 C) (ENV.take 33) (by rw [List.length_take, env_len]; decide) wa HPA.out
  unfold IdPost at hpi
  rw [show idOk (ENV.take 33) = false from decide_eq_false (by rw [List.length_take, env_len]; decide), show idOut (ENV.take 33) = 0 from if_pos (by rw [List.length_take, env_len]; decide)] at hpi
  go_wp2_with fail
  refine hpi.mono ?_
  clear hpi hs33
  rintro e wb ⟨rfl, hF⟩
  have HFB := Lib.hid (HFA.out.trans' hF)
  have HXB := Lib.hid (HXA.out.fr0 hF)
  have HCB := Lib.hid (HCA.out.fr0 hF)
  clear hF
  have hL := (Fr.refl (fun _ => False) wb).alloc (.cells #[.int .u8 107, .int .u8 101, .int .u8 121] 5 (3, 4))
  have HL := Lib.hid (HFB.out.trans' hL)
  have hk := lit_mark wb [107, 101, 121] #[.int .u8 107, .int .u8 101, .int .u8 121] 5 (3, 4) 3 rfl 3 (Nat.le_refl _) rfl wb.heap.size rfl
  have hop := open_is e_m5.1 e_m5.2 (.slice A 38 C) _ (by decide) (by decide) (by rw [env_len]; decide) _ (HXB.out.fr0 hL) hk (HR.out.fr HL.out)
  clear hL hk
  go_wp2_with fail
  refine hop.mono ?_
  clear hop
  rintro e wc ⟨Ao7, Co7, rfl, hC7, hF⟩
  have hg := ((Fr.refl (fun _ => False) wb).alloc (.cells #[.int .u8 107, .int .u8 101, .int .u8 121] 5 (3, 4))).trans' hF
  have HFC := Lib.hid (HFB.out.trans' hg)
  have HG7 := Lib.hid hg
  clear hF hg HL
  have hXc := HXB.out.fr0 HG7.out
  have hCc := HCB.out.fr0 HG7.out
  have hcv : (convert 23 9 (.slice Ao1 4 Co1)).run Tryd.prog wc = .ok (.string ⟨#[98, 111, 100, 121]⟩) wc := hCc.convert (P := Tryd.prog) 23 9 5 Tryd.underlying23 Tryd.underlying5 Tryd.underlying9
  obtain ⟨a, c, pb, po, hv, hle, ha, hcell⟩ := hXc
  obtain rfl := ha (by rw [env_len]; decide)
  simp only [Value.slice.injEq] at hv
  obtain ⟨rfl, _, rfl⟩ := hv
  have x0 : wc.cell? ⟨pb, po, none⟩ = some (.int .u8 1) := by have h := hcell 0 (by rw [env_len]; decide); rw [env_at0] at h; exact h
  have x1 : wc.cell? ⟨pb, po + 1, none⟩ = some (.int .u8 2) := by have h := hcell 1 (by rw [env_len]; decide); rw [env_at1] at h; exact h
  clear hC7 hcell hCc ha hle kc kc2
  go_wp2
  go_ret
  exact ⟨rfl, HFC.out⟩
end Go.Proofs.YteafnknghnhlgaaDoor.TokenL
