/-
  The reference's GetAsk walked.
-/
import Derived.Test.YtemfohccnpopfaaAskRefGetS
namespace Go.Proofs.Ytemfohccnpopfaa.Ask
open Go.RowKit Base Pack

set_option maxRecDepth 100000 in
set_option maxHeartbeats 8000000 in
theorem rget_any (v : Value) (b : List UInt8) (hb : b.length ≤ 140737488355328) (w : World) (hB : BytesIs w v b) :
    Calls Try.prog 15 #[v] w (GetPost b w) := by
  obtain ⟨a, c, rfl⟩ := hB.form
  have HB := Lib.hid hB
  have hlt : ∀ q n cp, Value.slice a b.length c = .slice (some q) n cp → 0 < b.length → q.block < w.heap.size := by
    obtain ⟨a', cap, pb, po, hv, hle, ha, hcell⟩ := hB
    intro q n cp h hl
    simp only [Value.slice.injEq] at hv h
    have h2 := ha hl
    rw [← hv.1, h.1] at h2
    cases h2
    exact World.block_lt_of_cell? w _ (hcell 0 hl)
  have hrd : RdO w.heap.size ((w.alloc (.cells #[.int .i64 0, .string ⟨#[]⟩, .slice none 0 0, .int .i64 0, .int .i64 0, .int .i64 0] 40)).alloc (.cells #[.slice a b.length c, .int .i64 0] 69)) (w.heap.size + 1) b 0 := by
    have h := rowIs_new (w.alloc (.cells #[.int .i64 0, .string ⟨#[]⟩, .slice none 0 0, .int .i64 0, .int .i64 0, .int .i64 0] 40)) #[.slice a b.length c, .int .i64 0] 69 2 (fun i => if i = 0 then .slice a b.length c else .int .i64 0) rfl (fun i hi => by
      match i, hi with
      | 0, _ => rfl
      | 1, _ => rfl)
    rw [show (w.alloc (.cells #[.int .i64 0, .string ⟨#[]⟩, .slice none 0 0, .int .i64 0, .int .i64 0, .int .i64 0] 40)).heap.size = w.heap.size + 1 by simp] at h
    exact ⟨_, h, hB.fr0 (((Fr.refl _ _).alloc _).alloc _), hlt⟩
  have hres : ((w.alloc (.cells #[.int .i64 0, .string ⟨#[]⟩, .slice none 0 0, .int .i64 0, .int .i64 0, .int .i64 0] 40)).alloc (.cells #[.slice a b.length c, .int .i64 0] 69)).rowIs w.heap.size 40 6 (ask6 0 ⟨#[]⟩ (.slice none 0 0) 0 0 0) := Fr.row (S := fun _ => False) ((Fr.refl _ _).alloc _) (rowIs_new w #[.int .i64 0, .string ⟨#[]⟩, .slice none 0 0, .int .i64 0, .int .i64 0, .int .i64 0] 40 6 _ rfl (fun i hi => by
      match i, hi with
      | 0, _ => rfl
      | 1, _ => rfl
      | 2, _ => rfl
      | 3, _ => rfl
      | 4, _ => rfl
      | 5, _ => rfl)) (fun f => f)
  have hF1 : Fr0 w ((w.alloc (.cells #[.int .i64 0, .string ⟨#[]⟩, .slice none 0 0, .int .i64 0, .int .i64 0, .int .i64 0] 40)).alloc (.cells #[.slice a b.length c, .int .i64 0] 69)) := ((Fr.refl _ _).alloc _).alloc _
  have hgl : w.heap.size + 1 < ((w.alloc (.cells #[.int .i64 0, .string ⟨#[]⟩, .slice none 0 0, .int .i64 0, .int .i64 0, .int .i64 0] 40)).alloc (.cells #[.slice a b.length c, .int .i64 0] 69)).heap.size := by simp
  have hn := rN_old w.heap.size (w.heap.size + 1) 1 b 0 _ (by decide) hb hrd
  have HRS := Lib.hid hres
  have HF1 := Lib.hid hF1
  clear hres hF1 hlt hrd hB
  go_enter Try.func15, Try.ntmps15
  go_wp2_with fail
  refine hn.mono ?_
  clear hn
  rintro e W2 ⟨rfl, hR2, hF2⟩
  simp only [show ((1 : Nat) : Int) = 1 from rfl] at hR2 ⊢
  have hkk : num (refOut 1 b 0) < 256 := num_lt_le (k := 1) (refOut_le 1 b 0)
  have hl1 := refRest_le 1 b 0
  have HRS2 := Lib.hid (hF2.row HRS.out (fun h => by have h' : w.heap.size = w.heap.size + 1 := h; omega))
  have HF2 : Hid (Fr0 w W2) := Lib.hid (HF1.out.trans hF2 (fun i hi h => by have h' : i = w.heap.size + 1 := h; omega))
  have hgl2 : w.heap.size + 1 < W2.heap.size := Nat.lt_of_lt_of_le hgl hF2.size
  have HR2 := Lib.hid hR2
  obtain ⟨K, hK⟩ : ∃ K, K = num (refOut 1 b 0) := ⟨_, rfl⟩
  obtain ⟨b1, hb1⟩ : ∃ x, x = refRest 1 b 0 := ⟨_, rfl⟩
  obtain ⟨e1, he1⟩ : ∃ x, x = refErr 1 b 0 := ⟨_, rfl⟩
  rw [← hK] at hkk ⊢
  rw [← hb1, ← he1] at HR2
  rw [← hb1] at hl1
  have HK := Lib.hid hK
  have HB1 := Lib.hid hb1
  have HE1 := Lib.hid he1
  clear hK hb1 he1 hR2 hF2 HRS HF1 hgl
  generalize hW1 : (w.alloc (.cells #[.int .i64 0, .string ⟨#[]⟩, .slice none 0 0, .int .i64 0, .int .i64 0, .int .i64 0] 40)).alloc (.cells #[.slice a b.length c, .int .i64 0] 69) = W1 at *
  clear hW1
  have hga := heap_alloc_new W2 (.cells #[.int .i64 0, .string ⟨#[]⟩, .slice none 0 0, .int .i64 0, .int .i64 0, .int .i64 0] 40)
  have hAP : Apart w w.heap.size (w.heap.size + 1) W2.heap.size := ⟨by omega, by omega, by omega, by omega, by omega, by have := HF2.out.size; omega⟩
  have hf3 : Fr0 W2 ((W2.alloc (.cells #[.int .i64 0, .string ⟨#[]⟩, .slice none 0 0, .int .i64 0, .int .i64 0, .int .i64 0] 40)).setRow W2.heap.size #[.int .i64 (K : Int), .string ⟨#[]⟩, .slice none 0 0, .int .i64 0, .int .i64 0, .int .i64 0]) := Fr.setRow ((Fr.refl _ _).alloc _) (fun h => absurd h (Nat.lt_irrefl _)) _
  have hN : Now w w.heap.size (w.heap.size + 1) W2.heap.size b1 e1 (K : Int) ⟨#[]⟩ (.slice none 0 0) 0 0 0 ((W2.alloc (.cells #[.int .i64 0, .string ⟨#[]⟩, .slice none 0 0, .int .i64 0, .int .i64 0, .int .i64 0] 40)).setRow W2.heap.size #[.int .i64 (K : Int), .string ⟨#[]⟩, .slice none 0 0, .int .i64 0, .int .i64 0, .int .i64 0]) :=
    ⟨HR2.out.fr0 hf3, rowIs_of_cells (setRow_heap _ _ _ _ _ _ hga) rfl (fun i hi => by
      match i, hi with
      | 0, _ => rfl
      | 1, _ => rfl
      | 2, _ => rfl
      | 3, _ => rfl
      | 4, _ => rfl
      | 5, _ => rfl), hf3.row HRS2.out (fun f => f), HF2.out.trans' hf3⟩
  obtain ⟨W3, hW3⟩ : ∃ W3, W3 = (W2.alloc (.cells #[.int .i64 0, .string ⟨#[]⟩, .slice none 0 0, .int .i64 0, .int .i64 0, .int .i64 0] 40)).setRow W2.heap.size #[.int .i64 (K : Int), .string ⟨#[]⟩, .slice none 0 0, .int .i64 0, .int .i64 0, .int .i64 0] := ⟨_, rfl⟩
  rw [← hW3] at hN
  have HW3 := Lib.hid hW3
  have HGA := Lib.hid hga
  have HN := Lib.hid hN
  have HAP := Lib.hid hAP
  clear hN hAP hf3 hga HR2 HRS2 HF2 hW3
  have hg0w : w.heap.size < W2.heap.size := by omega
  obtain ⟨k0, k1, k2, k3, k4, k5⟩ := HN.out.cells
  have ke := HN.out.err
  by_cases hC1 : e1 = 0 ∧ ¬ (K : Int) = 1 ∧ ¬ (K : Int) = 2
  · obtain ⟨rfl, h1, h2⟩ := hC1
    have q1 : ((K : Int) != 1) = true := bne_iff_ne.2 h1
    have q2 : ((K : Int) != 2) = true := bne_iff_ne.2 h2
    go_wp2_with (first | (refine wpList_store_row rfl 40 _ _ rfl W2.heap.size #[.int .i64 (K : Int), .string ⟨#[]⟩, .slice none 0 0, .int .i64 0, .int .i64 0, .int .i64 0] rfl rfl 40 _ HGA.out infoAsk rfl (ask_one _ _ _ _ _ _ rfl) ?_; rw [← HW3.out]) | (refine wpList_store_row rfl 40 _ _ rfl w.heap.size #[.int .i64 0, .string ⟨#[]⟩, .slice none 0 0, .int .i64 0, .int .i64 0, .int .i64 0] rfl rfl 40 _ HN.out.resH infoAsk rfl (ask_one _ _ _ _ _ _ rfl) ?_))
    have hz2 := setRow_heap W3 w.heap.size _ #[.int .i64 0, .string ⟨#[]⟩, .slice none 0 0, .int .i64 0, .int .i64 0, .int .i64 0] _ _ HN.out.resH
    have hfe : Fr0 w (W3.setRow w.heap.size #[.int .i64 0, .string ⟨#[]⟩, .slice none 0 0, .int .i64 0, .int .i64 0, .int .i64 0]) := Fr.setRow HN.out.fr (fun h => absurd h (Nat.lt_irrefl _)) _
    have hval : getB b = (zero, 2) := by
      match b, HK.out, HE1.out with
      | [], _, he => exact absurd (he.trans r1_nil.2.2) (by decide)
      | k :: l, hK, _ =>
        have hk : K = k.toNat := by rw [hK, (r1_cons k l).1]
        unfold getB
        simp only
        rw [if_neg (by omega)]
    (try simp only [Exit.inBlock, Exit.then])
    refine bodyPost_ret (results_ask rfl _ _ w.heap.size _ rfl _ rfl hz2 infoAsk) rfl ⟨none, 0, ?_, ?_, hfe⟩
    · rw [hval]; rfl
    · rw [hval]; exact pairs_nil _
  · by_cases hk1 : (K : Int) = 1
    · have hk1p : True := trivial
      have he1 : e1 = 0 := by
        match b, HK.out, HE1.out with
        | [], hK, _ => rw [r1_nil.1] at hK; omega
        | k :: l, _, he => rw [he]; exact (r1_cons k l).2.2
      have z1 : ((K : Int) != 1) = false := by rw [hk1]; rfl
      have q1 : ((K : Int) == 1) = true := by rw [hk1]; rfl
      have ke0 : W3.cell? ⟨w.heap.size + 1, 1, none⟩ = some (.int .i64 0) := by rw [ke, he1]
      have HK1 : Hid (1 = num (refOut 1 b 0)) := Lib.hid (by rw [← HK.out]; omega)
      have HKI : Hid ((K : Int) = 1) := Lib.hid hk1
      clear ke hk1
      have hby := refbytes_old w.heap.size (w.heap.size + 1) 16 b1 e1 W3 (by decide) (by omega) HN.out.rd
      go_wp2_with (first | (refine wpList_store_row rfl 40 _ _ rfl W2.heap.size #[.int .i64 (K : Int), .string ⟨#[]⟩, .slice none 0 0, .int .i64 0, .int .i64 0, .int .i64 0] rfl rfl 40 _ HGA.out infoAsk rfl (ask_one _ _ _ _ _ _ rfl) ?_; rw [← HW3.out]))
      refine hby.mono ?_
      clear hby
      rintro e W4 ⟨v4, rfl, hB4, hR4, hF4⟩
      obtain ⟨nm, hnm⟩ : ∃ x, x = refBytesOut 16 b1 e1 := ⟨_, rfl⟩
      obtain ⟨b2, hb2⟩ : ∃ x, x = refBytesRest 16 b1 e1 := ⟨_, rfl⟩
      obtain ⟨e2, he2⟩ : ∃ x, x = refBytesErr 16 b1 e1 := ⟨_, rfl⟩
      have HNL : Hid (nm.length ≤ 65535) := Lib.hid (by rw [hnm]; exact refBytesOut_le _ _ _)
      have hl2 : b2.length ≤ b1.length := by rw [hb2]; exact refBytesRest_le _ _ _
      rw [← hb2, ← he2] at hR4
      rw [← hnm] at hB4
      have HNM := Lib.hid hnm
      have HB2 := Lib.hid hb2
      have HE2 := Lib.hid he2
      have HN4 := Lib.hid (HN.out.read HAP.out hF4 hR4)
      have hcv := hB4.convert (P := Try.prog) 29 9 5 Try.underlying29 Try.underlying5 Try.underlying9
      have th1 := HN4.out.thaw 1
      have c1' := HN4.out.cells.2.1
      have HN5 := Lib.hid (HN4.out.set HAP.out 1 (.string ⟨nm.toArray⟩) (k' := (K : Int)) (nm' := ⟨nm.toArray⟩) (sv' := .slice none 0 0) (f' := 0) (t' := 0) (wn' := 0) (fun j hj => by
        match j, hj with
        | 0, _ => rfl
        | 1, _ => rfl
        | 2, _ => rfl
        | 3, _ => rfl
        | 4, _ => rfl
        | 5, _ => rfl))
      clear hnm hb2 he2 hR4 hF4 hB4 k0 k1 k2 k3 k4 k5
      have k0 := HN5.out.cells.1
      obtain ⟨W5, hW5⟩ : ∃ W5, W5 = W4.setCell ⟨W2.heap.size, 1, none⟩ (.string ⟨nm.toArray⟩) := ⟨_, rfl⟩
      rw [← hW5] at HN5 k0
      have hrn := rN_old w.heap.size (w.heap.size + 1) 1 b2 e2 W5 (by decide) (by omega) HN5.out.rd
      simp only [show ((1 : Nat) : Int) = 1 from rfl] at hrn
      rw [hW5] at hrn k0
      have HW5 := Lib.hid hW5
      clear hW5
      go_wp2_with fail
      refine hrn.mono ?_
      clear hrn
      rw [← HW5.out]
      rintro e W6 ⟨rfl, hRx, hFx⟩
      have hN8 : num (refOut 1 b2 e2) < 256 := num_lt_le (k := 1) (refOut_le 1 b2 e2)
      obtain ⟨n, hn⟩ : ∃ x, x = num (refOut 1 b2 e2) := ⟨_, rfl⟩
      obtain ⟨b3, hb3⟩ : ∃ x, x = refRest 1 b2 e2 := ⟨_, rfl⟩
      obtain ⟨e3, he3⟩ : ∃ x, x = refErr 1 b2 e2 := ⟨_, rfl⟩
      have hlb3 : b3.length ≤ b2.length := by rw [hb3]; exact refRest_le _ _ _
      rw [← hn] at hN8 ⊢
      rw [← hb3, ← he3] at hRx
      have HNN := Lib.hid hn
      have HB3 := Lib.hid hb3
      have HE3 := Lib.hid he3
      have HN6 := Lib.hid (HN5.out.read HAP.out hFx hRx)
      have hs6 : W2.heap.size < W6.heap.size := HN6.out.ask.lt
      have HO6 : Hid (W6.ownsRow W6.heap.size 66 2 (.slice none ([] : List (Int × Int)).length 0) ([] : List (Int × Int)).length (pcells [])) := Lib.hid (World.ownsRow_nil _ _ _ _)
      clear hn hb3 he3 hRx hFx k0 hcv th1 c1'
      go_wp2_with fail
      go_loopg [7] n (fun kx vi wr => ∃ (i : Nat) (S : List (Int × Int)) (A : Option Addr) (C : Nat) (bb : List UInt8) (e : Int), vi = .int .i64 (i : Int) ∧ i ≤ n ∧ n - i ≤ kx ∧ bb.length ≤ b.length ∧ S.length ≤ i ∧ W6.heap.size ≤ wr.heap.size ∧ Hid (Now w w.heap.size (w.heap.size + 1) W2.heap.size bb e (K : Int) ⟨nm.toArray⟩ (.slice A S.length C) 0 0 0 wr) ∧ Hid (wr.ownsRow W6.heap.size 66 2 (.slice A S.length C) S.length (pcells S)) ∧ Hid ((e3 = 0 ∧ At n b3 i bb e S) ∨ (¬ e3 = 0 ∧ i = 0 ∧ bb = b3 ∧ e = e3)))
      case atStart => exact ⟨0, [], none, 0, b3, e3, rfl, Nat.zero_le _, by omega, by omega, by simp, Nat.le_refl _, HN6, HO6, Lib.hid (by
          by_cases h : e3 = 0
          · exact .inl ⟨h, by rw [h]; exact At.start n b3⟩
          · exact .inr ⟨h, rfl, rfl, rfl⟩)⟩
      case round =>
        clear HN6 HO6
        obtain ⟨i, S, A, C, bb, e, rfl, hi, hk, hbl, hSl, hsz, HNR, HOR, HATR⟩ := hrel
        have HPS := Lib.hid (pairs_own HOR.out rfl)
        have HOFF : Hid (∀ q n c, Value.slice A S.length C = .slice (some q) n c → 0 < S.length → ¬ q.block = w.heap.size) := Lib.hid (fun q n c h _ e => by
          have := (HOR.out.lt q.block (by rw [h]; rfl)).1
          omega)
        by_cases hlt : i < n
        · have i1 : (i : Int) < (n : Int) := by omega
          have ke := HNR.out.err
          by_cases he : e = 0
          · have hgo : True := trivial
            have kez : wr.cell? ⟨w.heap.size + 1, 1, none⟩ = some (.int .i64 0) := by rw [ke, he]
            subst he
            have HA1 : Hid (e3 = 0 ∧ At n b3 i bb 0 S) := Lib.hid (by
              rcases HATR.out with h | ⟨h1, _, _, h2⟩
              · exact h
              · exact absurd h2.symm h1)
            have hrn := rN_old w.heap.size (w.heap.size + 1) 8 bb 0 wr (by decide) (by omega) HNR.out.rd
            simp only [show ((8 : Nat) : Int) = 8 from rfl] at hrn
            go_wp2_with fail
            refine hrn.mono ?_
            clear hrn
            rintro e Wx ⟨rfl, hRx, hFx⟩
            have hT8 : num (refOut 8 bb 0) < 256 ^ 8 := num_lt_le (k := 8) (refOut_le 8 bb 0)
            obtain ⟨T, hT⟩ : ∃ x, x = num (refOut 8 bb 0) := ⟨_, rfl⟩
            obtain ⟨bx, hbx⟩ : ∃ x, x = refRest 8 bb 0 := ⟨_, rfl⟩
            obtain ⟨ex, hex⟩ : ∃ x, x = refErr 8 bb 0 := ⟨_, rfl⟩
            have hlbx : bx.length ≤ bb.length := by rw [hbx]; exact refRest_le _ _ _
            rw [← hT] at hT8 ⊢
            rw [← hbx, ← hex] at hRx
            have HT := Lib.hid hT
            have Hbx := Lib.hid hbx
            have Hex := Lib.hid hex
            have HNX := Lib.hid (HNR.out.read HAP.out hFx hRx)
            have HRX := Lib.hid hFx
            clear hT hbx hex hRx hFx
            have hszx : W6.heap.size ≤ Wx.heap.size := by have h1 := HRX.out.size; omega
            have HOX := Lib.hid (ownsFr HRX.out HOR.out (fun q hq e => by have h1 := (HOR.out.lt q hq).1; have h2 : q = w.heap.size + 1 := e; omega))
            obtain ⟨UT, hUT⟩ : ∃ x, x = un T := ⟨_, rfl⟩
            have cuT : ∀ w, (convert 65 2 (.int .u64 (T : Int))).run Try.prog w = .ok (.int .i64 UT) w := fun w => by rw [hUT]; exact conv_un T hT8 w
            have HUT := Lib.hid hUT
            clear hUT ke kez
            have HNXD := Lib.hid (HNX.out.fr0 (Fr.refl _ _).drew)
            have c2 := HNXD.out.cells.2.2.1
            have hrn := rN_old w.heap.size (w.heap.size + 1) 8 bx ex Wx.drew (by decide) (by omega) HNXD.out.rd
            simp only [show ((8 : Nat) : Int) = 8 from rfl] at hrn
            go_wp2
            refine Mix.law (fun X => X.cell? ⟨W2.heap.size, 2, none⟩ = some (.slice A S.length C)) [(.sure, 0), (.sure, 1), (.sure, 2), (.sure, 3), (.turn, 4), (.sure, 5), (.sure, 6), (.turn, 7), (.turn, 8), (.sure, 9), (.last, 10)] (by kernel_rfl) (by kernel_rfl) c2 ?_
            simp only [List.map_cons, List.map_nil, Mix.nth_zero, Mix.nth_succ]
            repeat (first
              | (refine Mix.go_skipS (by exact Mix.wanted_no rfl rfl rfl rfl) ?_; go_frame)
              | (refine Mix.go_skipL (by exact Mix.wanted_no rfl rfl rfl rfl) ?_; go_frame)
              | (refine Mix.go_move (by first | exact Mix.wanted_none rfl | exact Mix.wanted_yes rfl rfl rfl) _ rfl _ (by first | (go_simp; done) | (go_simp; rfl)) ?_; go_frame)
              | (refine Mix.go_assign (by first | exact Mix.wanted_none rfl | exact Mix.wanted_yes rfl rfl rfl) _ rfl _ (by first | (go_simp; done) | (go_simp; rfl)) ?_; go_frame)
              | (refine Mix.go_sureW (by first | exact Mix.wanted_none rfl | exact Mix.wanted_yes rfl rfl rfl) _ (by rfl) (by rfl) _ (fun w' hC' => by go_wp2_with fail; refine Mix.stays ?_; go_frame; rfl) ?_; go_frame)
              | (refine Mix.go_lookW (by first | exact Mix.wanted_none rfl | exact Mix.wanted_yes rfl rfl rfl) _ (by rfl) (by rfl) _ (by go_wp2_with fail; refine Mix.stays ?_; go_frame; rfl) ?_; go_frame))
            refine Mix.go_turn ?_
            go_wp2_with fail
            refine hrn.mono ?_
            clear hrn
            rintro e Wy ⟨rfl, hRy, hFy⟩
            have hU8 : num (refOut 8 bx ex) < 256 ^ 8 := num_lt_le (k := 8) (refOut_le 8 bx ex)
            obtain ⟨U, hU⟩ : ∃ x, x = num (refOut 8 bx ex) := ⟨_, rfl⟩
            obtain ⟨by_, hby⟩ : ∃ x, x = refRest 8 bx ex := ⟨_, rfl⟩
            obtain ⟨ey, hey⟩ : ∃ x, x = refErr 8 bx ex := ⟨_, rfl⟩
            have hly : by_.length ≤ bx.length := by rw [hby]; exact refRest_le _ _ _
            rw [← hU] at hU8 ⊢
            rw [← hby, ← hey] at hRy
            have HNY := Lib.hid (HNXD.out.read HAP.out hFy hRy)
            have hnext := At.next HA1.out.2 hlt HT.out Hbx.out Hex.out hU hby hey
            obtain ⟨UU, hUU⟩ : ∃ x, x = un U := ⟨_, rfl⟩
            have cuU : ∀ w, (convert 65 2 (.int .u64 (U : Int))).run Try.prog w = .ok (.int .i64 UU) w := fun w => by rw [hUU]; exact conv_un U hU8 w
            rw [← hUU, ← HUT.out] at hnext
            have HNEXT := Lib.hid hnext
            have hszy : W6.heap.size ≤ Wy.heap.size := by have h1 := hFy.size; have h2 : Wx.drew.heap.size = Wx.heap.size := rfl; omega
            have HOY := Lib.hid (ownsFr hFy (ownsFr (Fr.refl (fun _ => False) Wx).drew HOX.out (fun _ _ f => f)) (fun q hq e => by have h1 := (HOX.out.lt q hq).1; have h2 : q = w.heap.size + 1 := e; omega))
            have c2y := HNY.out.cells.2.2.1
            clear hU hby hey hUU hRy hFy hnext c2
            go_wp2
            refine Mix.then_go c2y ?_
            repeat (first
              | (refine Mix.go_skipS (by exact Mix.wanted_no rfl rfl rfl rfl) ?_; go_frame)
              | (refine Mix.go_skipL (by exact Mix.wanted_no rfl rfl rfl rfl) ?_; go_frame)
              | (refine Mix.go_move (by first | exact Mix.wanted_none rfl | exact Mix.wanted_yes rfl rfl rfl) _ rfl _ (by first | (go_simp; done) | (go_simp; rfl)) ?_; go_frame)
              | (refine Mix.go_assign (by first | exact Mix.wanted_none rfl | exact Mix.wanted_yes rfl rfl rfl) _ rfl _ (by first | (go_simp; done) | (go_simp; rfl)) ?_; go_frame)
              | (refine Mix.go_sureW (by first | exact Mix.wanted_none rfl | exact Mix.wanted_yes rfl rfl rfl) _ (by rfl) (by rfl) _ (fun w' hC' => by go_wp2_with fail; refine Mix.stays ?_; go_frame; rfl) ?_; go_frame)
              | (refine Mix.go_lookW (by first | exact Mix.wanted_none rfl | exact Mix.wanted_yes rfl rfl rfl) _ (by rfl) (by rfl) _ (by go_wp2_with fail; refine Mix.stays ?_; go_frame; rfl) ?_; go_frame))
            refine Mix.go_turn ?_
            go_wp2
            have HFL := Lib.hid ((Fr.refl (fun _ => False) Wy).alloc (.cells #[.int .i64 UT, .int .i64 UU] 66))
            have HNL2 := Lib.hid (HNY.out.fr0 HFL.out)
            have HOL := Lib.hid (ownsFr HFL.out HOY.out (fun _ _ f => f))
            have HPL := Lib.hid (pair_lit Wy UT UU 66)
            have c2l := HNL2.out.cells.2.2.1
            refine Mix.then_go c2l ?_
            refine Mix.go_turn ?_
            go_wp2_with (refine wpList_append_valsN rfl (.tmp 58) (.tmp 64) 38 rfl W6.heap.size 66 Try.underlying38 (.agg #[.int .i64 0, .int .i64 0]) 2 16 infoSm rfl (by decide) _ _ S.length 1 (pcells S) [.int .i64 UT, .int .i64 UU] rfl rfl HOL.out HPL.out (by decide) rfl (by intro u hu; simp at hu; rcases hu with rfl | rfl <;> rfl) (by unfold maxLen; omega) (by omega) (by have := HFL.out.size; omega) ?_)
            intro vz Wz hOz hGz hNz
            have hfz : Fr (fun j => (Value.slice A S.length C).ownBlock = some j) (Wy.alloc (.cells #[.int .i64 UT, .int .i64 UU] 66)) Wz := Fr.of_grown hGz (fun k hk e => e)
            have HNZ := Lib.hid (HNL2.out.fr' HAP.out hfz (N := W6.heap.size) (by omega) (by omega) (by omega) (fun j hj => (HOL.out.lt j hj).1))
            have hszz : W6.heap.size ≤ Wz.heap.size := by have h1 := hfz.size; have h2 := HFL.out.size; omega
            obtain ⟨Az, Cz, rfl, _⟩ := owns_form hOz
            have hlen : (S ++ [(UT, UU)]).length = S.length + 1 := by rw [List.length_append]; rfl
            have HOZ : Hid (Wz.ownsRow W6.heap.size 66 2 (.slice Az (S.length + 1) Cz) (S.length + 1) (pcells (S ++ [(UT, UU)]))) := Lib.hid (by rw [pcells_append]; exact hOz)
            have HLEN := Lib.hid hlen
            clear hlen
            have c2z := HNZ.out.cells.2.2.1
            have thz := HNZ.out.thaw 2
            clear hOz hGz hNz hfz c2l c2y
            refine Mix.then_go c2z ?_
            repeat (first
              | (refine Mix.go_skipS (by exact Mix.wanted_no rfl rfl rfl rfl) ?_; go_frame)
              | (refine Mix.go_skipL (by exact Mix.wanted_no rfl rfl rfl rfl) ?_; go_frame)
              | (refine Mix.go_move (by first | exact Mix.wanted_none rfl | exact Mix.wanted_yes rfl rfl rfl) _ rfl _ (by first | (go_simp; done) | (go_simp; rfl)) ?_; go_frame)
              | (refine Mix.go_assign (by first | exact Mix.wanted_none rfl | exact Mix.wanted_yes rfl rfl rfl) _ rfl _ (by first | (go_simp; done) | (go_simp; rfl)) ?_; go_frame)
              | (refine Mix.go_sureW (by first | exact Mix.wanted_none rfl | exact Mix.wanted_yes rfl rfl rfl) _ (by rfl) (by rfl) _ (fun w' hC' => by go_wp2_with fail; refine Mix.stays ?_; go_frame; rfl) ?_; go_frame)
              | (refine Mix.go_lookW (by first | exact Mix.wanted_none rfl | exact Mix.wanted_yes rfl rfl rfl) _ (by rfl) (by rfl) _ (by go_wp2_with fail; refine Mix.stays ?_; go_frame; rfl) ?_; go_frame))
            refine Mix.go_last ?_
            go_wp2
            have HNQ := Lib.hid (HNZ.out.set HAP.out 2 (.slice Az (S.length + 1) Cz) (k' := (K : Int)) (nm' := ⟨nm.toArray⟩) (sv' := .slice Az (S.length + 1) Cz) (f' := 0) (t' := 0) (wn' := 0) (fun j hj => by
              match j, hj with
              | 0, _ => rfl
              | 1, _ => rfl
              | 2, _ => rfl
              | 3, _ => rfl
              | 4, _ => rfl
              | 5, _ => rfl))
            have HOZ2 := Lib.hid (ownsFr (Fr.setCell (S := fun j => j = W2.heap.size) (p := ⟨W2.heap.size, 2, none⟩) (Fr.refl _ Wz) (fun _ => rfl) (.slice Az (S.length + 1) Cz)) HOZ.out (fun q hq e => by have h1 := (HOZ.out.lt q hq).1; have h2 : q = W2.heap.size := e; omega))
            refine Mix.then_go trivial ?_
            refine Mix.go_end ?_
            clear c2z thz
            go_wp2
            go_roundg (n - (i + 1))
            case measure => omega
            case rel => exact ⟨i + 1, S ++ [(UT, UU)], Az, Cz, by_, ey, by simp, by omega, by omega, by omega, by rw [HLEN.out]; omega, by simpa [World.setCell] using hszz, by rw [HLEN.out]; exact HNQ, by rw [HLEN.out]; exact HOZ2, Lib.hid (.inl ⟨HA1.out.1, HNEXT.out⟩)⟩
          · have hnz : (e == 0) = false := beq_eq_false_iff_ne.2 he
            have hgp := get_p HK1.out HB1.out HE1.out HNM.out HB2.out HE2.out HNN.out HB3.out HE3.out hi (fun h => he h.2) HATR.out
            have HV : Hid ((¬ e = 0 → getB b = (zero, e)) ∧ (e = 0 → getB b = fin ⟨(K : Int), nm, S, 0, 0, 0⟩ bb)) := Lib.hid ⟨hgp.1, fun h => absurd h he⟩
            clear hgp
            have HZ : Hid (getB b = (zero, e)) := Lib.hid (HV.out.1 he)
            have hne : (e != 0) = true := bne_iff_ne.2 he
            have ked : wr.drew.cell? ⟨w.heap.size + 1, 1, none⟩ = some (.int .i64 (e)) := ke
            have HND := Lib.hid (HNR.out.fr0 (Fr.refl _ _).drew)
            go_wp2
            refine Mix.law (fun X => X.cell? ⟨w.heap.size + 1, 1, none⟩ = some (.int .i64 (e))) [(.sure, 0), (.sure, 1), (.sure, 2), (.sure, 3), (.sure, 4), (.turn, 5), (.sure, 6)] (by kernel_rfl) (by kernel_rfl) ked ?_
            simp only [List.map_cons, List.map_nil, Mix.nth_zero, Mix.nth_succ]
            repeat (first
              | (refine Mix.go_skipS (by exact Mix.wanted_no rfl rfl rfl rfl) ?_; go_frame)
              | (refine Mix.go_skipL (by exact Mix.wanted_no rfl rfl rfl rfl) ?_; go_frame)
              | (refine Mix.go_move (by first | exact Mix.wanted_none rfl | exact Mix.wanted_yes rfl rfl rfl) _ rfl _ (by first | (go_simp; done) | (go_simp; rfl)) ?_; go_frame)
              | (refine Mix.go_assign (by first | exact Mix.wanted_none rfl | exact Mix.wanted_yes rfl rfl rfl) _ rfl _ (by first | (go_simp; done) | (go_simp; rfl)) ?_; go_frame)
              | (refine Mix.go_sureW (by first | exact Mix.wanted_none rfl | exact Mix.wanted_yes rfl rfl rfl) _ (by rfl) (by rfl) _ (fun w' hC' => by go_wp2_with fail; refine Mix.stays ?_; go_frame; rfl) ?_; go_frame)
              | (refine Mix.go_lookW (by first | exact Mix.wanted_none rfl | exact Mix.wanted_yes rfl rfl rfl) _ (by rfl) (by rfl) _ (by go_wp2_with fail; refine Mix.stays ?_; go_frame; rfl) ?_; go_frame))
            refine Mix.go_turn ?_
            go_wp2_with (refine wpList_store_row rfl 40 _ _ rfl w.heap.size #[.int .i64 0, .string ⟨#[]⟩, .slice none 0 0, .int .i64 0, .int .i64 0, .int .i64 0] rfl rfl 40 _ HND.out.resH infoAsk rfl (ask_one _ _ _ _ _ _ rfl) ?_)
            have hfz : Fr (fun j => j = w.heap.size) wr.drew (wr.drew.setRow w.heap.size #[.int .i64 0, .string ⟨#[]⟩, .slice none 0 0, .int .i64 0, .int .i64 0, .int .i64 0]) := Fr.setRow (S := fun j => j = w.heap.size) (Fr.refl _ _) (fun _ => rfl) _
            have hgd' : w.heap.size + 1 < wr.drew.heap.size := by obtain ⟨_, hr', _⟩ := HND.out.rd; exact hr'.lt
            refine Mix.then_go ((hfz.cell (p := ⟨w.heap.size + 1, 1, none⟩) hgd' (fun h => by have h' : w.heap.size + 1 = w.heap.size := h; omega)).trans ked) ?_
            repeat (first
              | (refine Mix.go_skipS (by exact Mix.wanted_no rfl rfl rfl rfl) ?_; go_frame)
              | (refine Mix.go_skipL (by exact Mix.wanted_no rfl rfl rfl rfl) ?_; go_frame)
              | (refine Mix.go_move (by first | exact Mix.wanted_none rfl | exact Mix.wanted_yes rfl rfl rfl) _ rfl _ (by first | (go_simp; done) | (go_simp; rfl)) ?_; go_frame)
              | (refine Mix.go_assign (by first | exact Mix.wanted_none rfl | exact Mix.wanted_yes rfl rfl rfl) _ rfl _ (by first | (go_simp; done) | (go_simp; rfl)) ?_; go_frame)
              | (refine Mix.go_sureW (by first | exact Mix.wanted_none rfl | exact Mix.wanted_yes rfl rfl rfl) _ (by rfl) (by rfl) _ (fun w' hC' => by go_wp2_with fail; refine Mix.stays ?_; go_frame; rfl) ?_; go_frame)
              | (refine Mix.go_lookW (by first | exact Mix.wanted_none rfl | exact Mix.wanted_yes rfl rfl rfl) _ (by rfl) (by rfl) _ (by go_wp2_with fail; refine Mix.stays ?_; go_frame; rfl) ?_; go_frame))
            refine Mix.go_end ?_
            have HZF := Lib.hid (setRow_heap wr.drew w.heap.size _ #[.int .i64 0, .string ⟨#[]⟩, .slice none 0 0, .int .i64 0, .int .i64 0, .int .i64 0] _ _ HND.out.resH)
            have HFE : Hid (Fr0 w (wr.drew.setRow w.heap.size #[.int .i64 0, .string ⟨#[]⟩, .slice none 0 0, .int .i64 0, .int .i64 0, .int .i64 0])) := Lib.hid (Fr.setRow HND.out.fr (fun h => absurd h (Nat.lt_irrefl _)) _)
            go_wp2
            (try simp only [Exit.inBlock, Exit.then])
            refine bodyPost_ret (results_ask rfl _ _ w.heap.size _ rfl _ rfl HZF.out infoAsk) rfl ⟨none, 0, ?_, ?_, HFE.out⟩
            · rw [HZ.out]; rfl
            · rw [HZ.out]; exact pairs_nil _
        · have hgp := get_p HK1.out HB1.out HE1.out HNM.out HB2.out HE2.out HNN.out HB3.out HE3.out hi (fun h => hlt h.1) HATR.out
          have HV : Hid ((¬ e = 0 → getB b = (zero, e)) ∧ (e = 0 → getB b = fin ⟨(K : Int), nm, S, 0, 0, 0⟩ bb)) := Lib.hid ⟨hgp.1, fun h => by rw [hgp.2 h, HKI.out]⟩
          have i1 : ¬ (i : Int) < (n : Int) := by omega
          clear hgp
          obtain ⟨ba, bc, kl⟩ := HNR.out.left
          have ke := HNR.out.err
          by_cases he : e = 0
          · have HVAL := Lib.hid (HV.out.2 he)
            have ke0 : wr.cell? ⟨w.heap.size + 1, 1, none⟩ = some (.int .i64 0) := by rw [ke, he]
            clear ke
            by_cases hbb : 0 < bb.length
            · have HZ : Hid (getB b = (zero, 2)) := Lib.hid (by rw [HVAL.out]; unfold fin; rw [if_pos (.inl hbb)])
              go_wp2_with (first | (refine wpList_store_row rfl 40 _ _ rfl w.heap.size #[.int .i64 0, .string ⟨#[]⟩, .slice none 0 0, .int .i64 0, .int .i64 0, .int .i64 0] rfl rfl 40 _ HNR.out.resH infoAsk rfl (ask_one _ _ _ _ _ _ rfl) ?_))
              have hz2 := setRow_heap wr w.heap.size _ #[.int .i64 0, .string ⟨#[]⟩, .slice none 0 0, .int .i64 0, .int .i64 0, .int .i64 0] _ _ HNR.out.resH
              have hfe : Fr0 w (wr.setRow w.heap.size #[.int .i64 0, .string ⟨#[]⟩, .slice none 0 0, .int .i64 0, .int .i64 0, .int .i64 0]) := Fr.setRow HNR.out.fr (fun h => absurd h (Nat.lt_irrefl _)) _
              (try simp only [Exit.inBlock, Exit.then])
              refine bodyPost_ret (results_ask rfl _ _ w.heap.size _ rfl _ rfl hz2 infoAsk) rfl ⟨none, 0, ?_, ?_, hfe⟩
              · rw [HZ.out]; rfl
              · rw [HZ.out]; exact pairs_nil _
            · have hbb0 : bb.length = 0 := by omega
              have hgd := rgood_any (A) (C) ⟨(K : Int), nm, S, 0, 0, 0⟩ (show nm.length ≤ 9223372036854775807 by have := HNL.out; omega) wr
              have hah := HNR.out.askH
              unfold rv at hgd
              simp only at hgd
              obtain ⟨G, hG⟩ : ∃ G, G = good ⟨(K : Int), nm, S, 0, 0, 0⟩ := ⟨_, rfl⟩
              rw [← hG] at hgd
              have HG := Lib.hid hG
              clear hG
              obtain ⟨l0, l1, l2, l3, l4, l5⟩ := HNR.out.cells
              go_wp2_with (refine wpList_load_row rfl 40 _ rfl W2.heap.size rfl 40 _ (0, 0) _ hah Try.underlying40 rfl (by kernel_rfl) ?_)
              refine hgd.mono ?_
              clear hgd
              rintro e We ⟨rfl, hFe⟩
              have HNE := Lib.hid (HNR.out.fr0 hFe)
              cases G with
              | false =>
                have HZ : Hid (getB b = (zero, 2)) := Lib.hid (by rw [HVAL.out]; unfold fin; rw [if_pos (.inr HG.out.symm)])
                clear hah
                go_wp2_with (refine wpList_store_row rfl 40 _ _ rfl w.heap.size #[.int .i64 0, .string ⟨#[]⟩, .slice none 0 0, .int .i64 0, .int .i64 0, .int .i64 0] rfl rfl 40 _ HNE.out.resH infoAsk rfl (ask_one _ _ _ _ _ _ rfl) ?_)
                have hz2 := setRow_heap We w.heap.size _ #[.int .i64 0, .string ⟨#[]⟩, .slice none 0 0, .int .i64 0, .int .i64 0, .int .i64 0] _ _ HNE.out.resH
                have hfe : Fr0 w (We.setRow w.heap.size #[.int .i64 0, .string ⟨#[]⟩, .slice none 0 0, .int .i64 0, .int .i64 0, .int .i64 0]) := Fr.setRow HNE.out.fr (fun h => absurd h (Nat.lt_irrefl _)) _
                (try simp only [Exit.inBlock, Exit.then])
                refine bodyPost_ret (results_ask rfl _ _ w.heap.size _ rfl _ rfl hz2 infoAsk) rfl ⟨none, 0, ?_, ?_, hfe⟩
                · rw [HZ.out]; rfl
                · rw [HZ.out]; exact pairs_nil _
              | true =>
                have HZ : Hid (getB b = (⟨(K : Int), nm, S, 0, 0, 0⟩, 0)) := Lib.hid (by rw [HVAL.out]; unfold fin; rw [if_neg (fun h => by
                  rcases h with h | h
                  · exact hbb h
                  · rw [← HG.out] at h
                    cases h)])
                have hae := HNE.out.askH
                have HPE := Lib.hid (HPS.out.fr0 hFe)
                clear hah hFe
                go_wp2_with (first | (refine wpList_load_row rfl 40 _ rfl W2.heap.size rfl 40 _ (0, 0) _ hae Try.underlying40 rfl (by kernel_rfl) ?_) | (refine wpList_store_row rfl 40 _ _ rfl w.heap.size #[.int .i64 ((K : Int)), .string ⟨nm.toArray⟩, .slice (A) (S).length (C), .int .i64 (0), .int .i64 (0), .int .i64 (0)] rfl rfl 40 _ HNE.out.resH infoAsk rfl (ask_one _ _ _ _ _ _ rfl) ?_))
                have hz2 := setRow_heap We w.heap.size _ #[.int .i64 ((K : Int)), .string ⟨nm.toArray⟩, .slice (A) (S).length (C), .int .i64 (0), .int .i64 (0), .int .i64 (0)] _ _ HNE.out.resH
                have hfs : Fr (fun j => j = w.heap.size) We (We.setRow w.heap.size #[.int .i64 ((K : Int)), .string ⟨nm.toArray⟩, .slice (A) (S).length (C), .int .i64 (0), .int .i64 (0), .int .i64 (0)]) := Fr.setRow (S := fun j => j = w.heap.size) (Fr.refl _ _) (fun _ => rfl) _
                have hfe : Fr0 w (We.setRow w.heap.size #[.int .i64 ((K : Int)), .string ⟨nm.toArray⟩, .slice (A) (S).length (C), .int .i64 (0), .int .i64 (0), .int .i64 (0)]) := Fr.setRow HNE.out.fr (fun h => absurd h (Nat.lt_irrefl _)) _
                (try simp only [Exit.inBlock, Exit.then])
                refine bodyPost_ret (results_ask rfl _ _ w.heap.size _ rfl _ rfl hz2 infoAsk) rfl ⟨A, C, ?_, ?_, hfe⟩
                · rw [HZ.out]; rfl
                · rw [HZ.out]
                  exact pairs_fr HPE.out hfs HOFF.out
          · have HZ : Hid (getB b = (zero, e)) := Lib.hid (HV.out.1 he)
            have hne : (e != 0) = true := bne_iff_ne.2 he
            have ked : wr.drew.cell? ⟨w.heap.size + 1, 1, none⟩ = some (.int .i64 (e)) := ke
            have HND := Lib.hid (HNR.out.fr0 (Fr.refl _ _).drew)
            go_wp2
            refine Mix.law (fun X => X.cell? ⟨w.heap.size + 1, 1, none⟩ = some (.int .i64 (e))) [(.sure, 0), (.sure, 1), (.sure, 2), (.sure, 3), (.sure, 4), (.turn, 5), (.sure, 6)] (by kernel_rfl) (by kernel_rfl) ked ?_
            simp only [List.map_cons, List.map_nil, Mix.nth_zero, Mix.nth_succ]
            repeat (first
              | (refine Mix.go_skipS (by exact Mix.wanted_no rfl rfl rfl rfl) ?_; go_frame)
              | (refine Mix.go_skipL (by exact Mix.wanted_no rfl rfl rfl rfl) ?_; go_frame)
              | (refine Mix.go_move (by first | exact Mix.wanted_none rfl | exact Mix.wanted_yes rfl rfl rfl) _ rfl _ (by first | (go_simp; done) | (go_simp; rfl)) ?_; go_frame)
              | (refine Mix.go_assign (by first | exact Mix.wanted_none rfl | exact Mix.wanted_yes rfl rfl rfl) _ rfl _ (by first | (go_simp; done) | (go_simp; rfl)) ?_; go_frame)
              | (refine Mix.go_sureW (by first | exact Mix.wanted_none rfl | exact Mix.wanted_yes rfl rfl rfl) _ (by rfl) (by rfl) _ (fun w' hC' => by go_wp2_with fail; refine Mix.stays ?_; go_frame; rfl) ?_; go_frame)
              | (refine Mix.go_lookW (by first | exact Mix.wanted_none rfl | exact Mix.wanted_yes rfl rfl rfl) _ (by rfl) (by rfl) _ (by go_wp2_with fail; refine Mix.stays ?_; go_frame; rfl) ?_; go_frame))
            refine Mix.go_turn ?_
            go_wp2_with (refine wpList_store_row rfl 40 _ _ rfl w.heap.size #[.int .i64 0, .string ⟨#[]⟩, .slice none 0 0, .int .i64 0, .int .i64 0, .int .i64 0] rfl rfl 40 _ HND.out.resH infoAsk rfl (ask_one _ _ _ _ _ _ rfl) ?_)
            have hfz : Fr (fun j => j = w.heap.size) wr.drew (wr.drew.setRow w.heap.size #[.int .i64 0, .string ⟨#[]⟩, .slice none 0 0, .int .i64 0, .int .i64 0, .int .i64 0]) := Fr.setRow (S := fun j => j = w.heap.size) (Fr.refl _ _) (fun _ => rfl) _
            have hgd' : w.heap.size + 1 < wr.drew.heap.size := by obtain ⟨_, hr', _⟩ := HND.out.rd; exact hr'.lt
            refine Mix.then_go ((hfz.cell (p := ⟨w.heap.size + 1, 1, none⟩) hgd' (fun h => by have h' : w.heap.size + 1 = w.heap.size := h; omega)).trans ked) ?_
            repeat (first
              | (refine Mix.go_skipS (by exact Mix.wanted_no rfl rfl rfl rfl) ?_; go_frame)
              | (refine Mix.go_skipL (by exact Mix.wanted_no rfl rfl rfl rfl) ?_; go_frame)
              | (refine Mix.go_move (by first | exact Mix.wanted_none rfl | exact Mix.wanted_yes rfl rfl rfl) _ rfl _ (by first | (go_simp; done) | (go_simp; rfl)) ?_; go_frame)
              | (refine Mix.go_assign (by first | exact Mix.wanted_none rfl | exact Mix.wanted_yes rfl rfl rfl) _ rfl _ (by first | (go_simp; done) | (go_simp; rfl)) ?_; go_frame)
              | (refine Mix.go_sureW (by first | exact Mix.wanted_none rfl | exact Mix.wanted_yes rfl rfl rfl) _ (by rfl) (by rfl) _ (fun w' hC' => by go_wp2_with fail; refine Mix.stays ?_; go_frame; rfl) ?_; go_frame)
              | (refine Mix.go_lookW (by first | exact Mix.wanted_none rfl | exact Mix.wanted_yes rfl rfl rfl) _ (by rfl) (by rfl) _ (by go_wp2_with fail; refine Mix.stays ?_; go_frame; rfl) ?_; go_frame))
            refine Mix.go_end ?_
            have HZF := Lib.hid (setRow_heap wr.drew w.heap.size _ #[.int .i64 0, .string ⟨#[]⟩, .slice none 0 0, .int .i64 0, .int .i64 0, .int .i64 0] _ _ HND.out.resH)
            have HFE : Hid (Fr0 w (wr.drew.setRow w.heap.size #[.int .i64 0, .string ⟨#[]⟩, .slice none 0 0, .int .i64 0, .int .i64 0, .int .i64 0])) := Lib.hid (Fr.setRow HND.out.fr (fun h => absurd h (Nat.lt_irrefl _)) _)
            go_wp2
            (try simp only [Exit.inBlock, Exit.then])
            refine bodyPost_ret (results_ask rfl _ _ w.heap.size _ rfl _ rfl HZF.out infoAsk) rfl ⟨none, 0, ?_, ?_, HFE.out⟩
            · rw [HZ.out]; rfl
            · rw [HZ.out]; exact pairs_nil _

    · by_cases he1 : e1 = 0
      · have hk2 : (K : Int) = 2 := by
          by_cases h : (K : Int) = 2
          · exact h
          · exact absurd ⟨he1, hk1, h⟩ hC1
        have z1 : ((K : Int) != 1) = true := bne_iff_ne.2 hk1
        have z2 : ((K : Int) != 2) = false := by rw [hk2]; rfl
        have ke0 : W3.cell? ⟨w.heap.size + 1, 1, none⟩ = some (.int .i64 0) := by rw [ke, he1]
        clear ke hk2
        have hby := refbytes_old w.heap.size (w.heap.size + 1) 16 b1 e1 W3 (by decide) (by omega) HN.out.rd
        go_wp2_with (first | (refine wpList_store_row rfl 40 _ _ rfl W2.heap.size #[.int .i64 (K : Int), .string ⟨#[]⟩, .slice none 0 0, .int .i64 0, .int .i64 0, .int .i64 0] rfl rfl 40 _ HGA.out infoAsk rfl (ask_one _ _ _ _ _ _ rfl) ?_; rw [← HW3.out]))
        refine hby.mono ?_
        clear hby
        rintro e W4 ⟨v4, rfl, hB4, hR4, hF4⟩
        obtain ⟨nm, hnm⟩ : ∃ x, x = refBytesOut 16 b1 e1 := ⟨_, rfl⟩
        obtain ⟨b2, hb2⟩ : ∃ x, x = refBytesRest 16 b1 e1 := ⟨_, rfl⟩
        obtain ⟨e2, he2⟩ : ∃ x, x = refBytesErr 16 b1 e1 := ⟨_, rfl⟩
        have HNL : Hid (nm.length ≤ 65535) := Lib.hid (by rw [hnm]; exact refBytesOut_le _ _ _)
        have hl2 : b2.length ≤ b1.length := by rw [hb2]; exact refBytesRest_le _ _ _
        rw [← hb2, ← he2] at hR4
        rw [← hnm] at hB4
        have HNM := Lib.hid hnm
        have HB2 := Lib.hid hb2
        have HE2 := Lib.hid he2
        have HN4 := Lib.hid (HN.out.read HAP.out hF4 hR4)
        have hcv := hB4.convert (P := Try.prog) 29 9 5 Try.underlying29 Try.underlying5 Try.underlying9
        have th1 := HN4.out.thaw 1
        have c1' := HN4.out.cells.2.1
        have HN5 := Lib.hid (HN4.out.set HAP.out 1 (.string ⟨nm.toArray⟩) (k' := (K : Int)) (nm' := ⟨nm.toArray⟩) (sv' := .slice none 0 0) (f' := 0) (t' := 0) (wn' := 0) (fun j hj => by
          match j, hj with
          | 0, _ => rfl
          | 1, _ => rfl
          | 2, _ => rfl
          | 3, _ => rfl
          | 4, _ => rfl
          | 5, _ => rfl))
        clear hnm hb2 he2 hR4 hF4 hB4 k0 k1 k2 k3 k4 k5
        have k0 := HN5.out.cells.1
        have q1 : ((K : Int) == 1) = false := beq_eq_false_iff_ne.2 hk1
        obtain ⟨W5, hW5⟩ : ∃ W5, W5 = W4.setCell ⟨W2.heap.size, 1, none⟩ (.string ⟨nm.toArray⟩) := ⟨_, rfl⟩
        rw [← hW5] at HN5 k0
        have hrn := rN_old w.heap.size (w.heap.size + 1) 8 b2 e2 W5 (by decide) (by omega) HN5.out.rd
        simp only [show ((8 : Nat) : Int) = 8 from rfl] at hrn
        rw [hW5] at hrn k0
        have HW5 := Lib.hid hW5
        clear hW5
        go_wp2_with fail
        refine hrn.mono ?_
        clear hrn
        rw [← HW5.out]
        rintro e W6 ⟨rfl, hRx, hFx⟩
        have hF8 : num (refOut 8 b2 e2) < 256 ^ 8 := num_lt_le (k := 8) (refOut_le 8 b2 e2)
        obtain ⟨F, hF⟩ : ∃ x, x = num (refOut 8 b2 e2) := ⟨_, rfl⟩
        obtain ⟨b3, hb3⟩ : ∃ x, x = refRest 8 b2 e2 := ⟨_, rfl⟩
        obtain ⟨e3, he3⟩ : ∃ x, x = refErr 8 b2 e2 := ⟨_, rfl⟩
        have hlb3 : b3.length ≤ b2.length := by rw [hb3]; exact refRest_le _ _ _
        rw [← hF] at hF8 ⊢
        rw [← hb3, ← he3] at hRx
        have HF := Lib.hid hF
        have HB3 := Lib.hid hb3
        have HE3 := Lib.hid he3
        have HN6 := Lib.hid (HN5.out.read HAP.out hFx hRx)
        clear hF hb3 he3 hRx hFx k0 hcv th1 c1'
        obtain ⟨UF, hUF⟩ : ∃ x, x = un F := ⟨_, rfl⟩
        have cuF : ∀ w, (convert 65 2 (.int .u64 (F : Int))).run Try.prog w = .ok (.int .i64 UF) w := fun w => by rw [hUF]; exact conv_un F hF8 w
        have HUF := Lib.hid hUF
        clear hUF
        have hrn := rN_old w.heap.size (w.heap.size + 1) 8 b3 e3 W6 (by decide) (by omega) HN6.out.rd
        simp only [show ((8 : Nat) : Int) = 8 from rfl] at hrn
        go_wp2_with fail
        refine hrn.mono ?_
        clear hrn
        rintro e W7 ⟨rfl, hRx, hFx⟩
        have hT8 : num (refOut 8 b3 e3) < 256 ^ 8 := num_lt_le (k := 8) (refOut_le 8 b3 e3)
        obtain ⟨T, hT⟩ : ∃ x, x = num (refOut 8 b3 e3) := ⟨_, rfl⟩
        obtain ⟨b4, hb4⟩ : ∃ x, x = refRest 8 b3 e3 := ⟨_, rfl⟩
        obtain ⟨e4, he4⟩ : ∃ x, x = refErr 8 b3 e3 := ⟨_, rfl⟩
        have hlb4 : b4.length ≤ b3.length := by rw [hb4]; exact refRest_le _ _ _
        rw [← hT] at hT8 ⊢
        rw [← hb4, ← he4] at hRx
        have HT := Lib.hid hT
        have Hb4 := Lib.hid hb4
        have He4 := Lib.hid he4
        have HN7 := Lib.hid (HN6.out.read HAP.out hFx hRx)
        clear hT hb4 he4 hRx hFx
        have f3 := HN7.out.cells.2.2.2.1
        have f4 := HN7.out.cells.2.2.2.2.1
        have th3 := HN7.out.thaw 3
        have th4 := HN7.out.thaw 4
        obtain ⟨UT, hUT⟩ : ∃ x, x = un T := ⟨_, rfl⟩
        have cuT : ∀ w, (convert 65 2 (.int .u64 (T : Int))).run Try.prog w = .ok (.int .i64 UT) w := fun w => by rw [hUT]; exact conv_un T hT8 w
        have HUT := Lib.hid hUT
        clear hUT
        have HN8 := Lib.hid (HN7.out.set HAP.out 3 (.int .i64 UF) (k' := (K : Int)) (nm' := ⟨nm.toArray⟩) (sv' := .slice none 0 0) (f' := UF) (t' := 0) (wn' := 0) (fun j hj => by
          match j, hj with
          | 0, _ => rfl
          | 1, _ => rfl
          | 2, _ => rfl
          | 3, _ => rfl
          | 4, _ => rfl
          | 5, _ => rfl))
        have HN9 := Lib.hid (HN8.out.set HAP.out 4 (.int .i64 UT) (k' := (K : Int)) (nm' := ⟨nm.toArray⟩) (sv' := .slice none 0 0) (f' := UF) (t' := UT) (wn' := 0) (fun j hj => by
          match j, hj with
          | 0, _ => rfl
          | 1, _ => rfl
          | 2, _ => rfl
          | 3, _ => rfl
          | 4, _ => rfl
          | 5, _ => rfl))
        have f4' := HN8.out.cells.2.2.2.2.1
        have th4' := HN8.out.thaw 4
        have hrn := rN_old w.heap.size (w.heap.size + 1) 1 b4 e4 _ (by decide) (by omega) HN9.out.rd
        simp only [show ((1 : Nat) : Int) = 1 from rfl] at hrn
        go_wp2_with fail
        refine hrn.mono ?_
        clear hrn
        rintro e W10 ⟨rfl, hRx, hFx⟩
        have hX8 : num (refOut 1 b4 e4) < 256 := num_lt_le (k := 1) (refOut_le 1 b4 e4)
        obtain ⟨X, hX⟩ : ∃ x, x = num (refOut 1 b4 e4) := ⟨_, rfl⟩
        obtain ⟨bb, hbb⟩ : ∃ x, x = refRest 1 b4 e4 := ⟨_, rfl⟩
        obtain ⟨e5, he5⟩ : ∃ x, x = refErr 1 b4 e4 := ⟨_, rfl⟩
        rw [← hX] at hX8 ⊢
        rw [← hbb, ← he5] at hRx
        have HN10 := Lib.hid (HN9.out.read HAP.out hFx hRx)
        have hgq := get_q HK.out HB1.out HE1.out HNM.out HB2.out HE2.out HF.out HB3.out HE3.out HT.out Hb4.out He4.out hX hbb he5 (by omega) (by omega)
        have HV : Hid ((¬ e5 = 0 → getB b = (zero, e5)) ∧ (e5 = 0 → getB b = fin ⟨(K : Int), nm, ([] : List (Int × Int)), UF, UT, (X : Int)⟩ bb)) := Lib.hid ⟨hgq.1, fun h => by
          obtain ⟨hk, hg⟩ := hgq.2 h
          rw [hg, HUF.out, HUT.out, hk]
          rfl⟩
        have f5 := HN10.out.cells.2.2.2.2.2
        have th5 := HN10.out.thaw 5
        clear hX hbb he5 hRx hFx hgq f3 f4 th3 th4 f4' th4' HN4
        have HN11 := Lib.hid (HN10.out.set HAP.out 5 (.int .i64 (X : Int)) (k' := (K : Int)) (nm' := ⟨nm.toArray⟩) (sv' := .slice none 0 0) (f' := UF) (t' := UT) (wn' := (X : Int)) (fun j hj => by
          match j, hj with
          | 0, _ => rfl
          | 1, _ => rfl
          | 2, _ => rfl
          | 3, _ => rfl
          | 4, _ => rfl
          | 5, _ => rfl))
        have HPS : Hid (PairsIs (W10.setCell ⟨W2.heap.size, 5, none⟩ (.int .i64 (X : Int))) (.slice none ([] : List (Int × Int)).length 0) ([] : List (Int × Int))) := Lib.hid (pairs_nil _)
        have HOFF : Hid (∀ q n c, Value.slice none ([] : List (Int × Int)).length 0 = .slice (some q) n c → 0 < ([] : List (Int × Int)).length → ¬ q.block = w.heap.size) := Lib.hid (fun q n c h => by cases h)
        obtain ⟨ba, bc, kl⟩ := HN11.out.left
        have ke := HN11.out.err
        by_cases he : e5 = 0
        · have HVAL := Lib.hid (HV.out.2 he)
          have ke0 : (W10.setCell ⟨W2.heap.size, 5, none⟩ (.int .i64 (X : Int))).cell? ⟨w.heap.size + 1, 1, none⟩ = some (.int .i64 0) := by rw [ke, he]
          clear ke
          by_cases hbb : 0 < bb.length
          · have HZ : Hid (getB b = (zero, 2)) := Lib.hid (by rw [HVAL.out]; unfold fin; rw [if_pos (.inl hbb)])
            go_wp2_with (first | (refine wpList_store_row rfl 40 _ _ rfl w.heap.size #[.int .i64 0, .string ⟨#[]⟩, .slice none 0 0, .int .i64 0, .int .i64 0, .int .i64 0] rfl rfl 40 _ HN11.out.resH infoAsk rfl (ask_one _ _ _ _ _ _ rfl) ?_))
            have hz2 := setRow_heap (W10.setCell ⟨W2.heap.size, 5, none⟩ (.int .i64 (X : Int))) w.heap.size _ #[.int .i64 0, .string ⟨#[]⟩, .slice none 0 0, .int .i64 0, .int .i64 0, .int .i64 0] _ _ HN11.out.resH
            have hfe : Fr0 w ((W10.setCell ⟨W2.heap.size, 5, none⟩ (.int .i64 (X : Int))).setRow w.heap.size #[.int .i64 0, .string ⟨#[]⟩, .slice none 0 0, .int .i64 0, .int .i64 0, .int .i64 0]) := Fr.setRow HN11.out.fr (fun h => absurd h (Nat.lt_irrefl _)) _
            (try simp only [Exit.inBlock, Exit.then])
            refine bodyPost_ret (results_ask rfl _ _ w.heap.size _ rfl _ rfl hz2 infoAsk) rfl ⟨none, 0, ?_, ?_, hfe⟩
            · rw [HZ.out]; rfl
            · rw [HZ.out]; exact pairs_nil _
          · have hbb0 : bb.length = 0 := by omega
            have hgd := rgood_any (none) (0) ⟨(K : Int), nm, ([] : List (Int × Int)), UF, UT, (X : Int)⟩ (show nm.length ≤ 9223372036854775807 by have := HNL.out; omega) (W10.setCell ⟨W2.heap.size, 5, none⟩ (.int .i64 (X : Int)))
            have hah := HN11.out.askH
            unfold rv at hgd
            simp only at hgd
            obtain ⟨G, hG⟩ : ∃ G, G = good ⟨(K : Int), nm, ([] : List (Int × Int)), UF, UT, (X : Int)⟩ := ⟨_, rfl⟩
            rw [← hG] at hgd
            have HG := Lib.hid hG
            clear hG
            obtain ⟨l0, l1, l2, l3, l4, l5⟩ := HN11.out.cells
            go_wp2_with (refine wpList_load_row rfl 40 _ rfl W2.heap.size rfl 40 _ (0, 0) _ hah Try.underlying40 rfl (by kernel_rfl) ?_)
            refine hgd.mono ?_
            clear hgd
            rintro e We ⟨rfl, hFe⟩
            have HNE := Lib.hid (HN11.out.fr0 hFe)
            cases G with
            | false =>
              have HZ : Hid (getB b = (zero, 2)) := Lib.hid (by rw [HVAL.out]; unfold fin; rw [if_pos (.inr HG.out.symm)])
              clear hah
              go_wp2_with (refine wpList_store_row rfl 40 _ _ rfl w.heap.size #[.int .i64 0, .string ⟨#[]⟩, .slice none 0 0, .int .i64 0, .int .i64 0, .int .i64 0] rfl rfl 40 _ HNE.out.resH infoAsk rfl (ask_one _ _ _ _ _ _ rfl) ?_)
              have hz2 := setRow_heap We w.heap.size _ #[.int .i64 0, .string ⟨#[]⟩, .slice none 0 0, .int .i64 0, .int .i64 0, .int .i64 0] _ _ HNE.out.resH
              have hfe : Fr0 w (We.setRow w.heap.size #[.int .i64 0, .string ⟨#[]⟩, .slice none 0 0, .int .i64 0, .int .i64 0, .int .i64 0]) := Fr.setRow HNE.out.fr (fun h => absurd h (Nat.lt_irrefl _)) _
              (try simp only [Exit.inBlock, Exit.then])
              refine bodyPost_ret (results_ask rfl _ _ w.heap.size _ rfl _ rfl hz2 infoAsk) rfl ⟨none, 0, ?_, ?_, hfe⟩
              · rw [HZ.out]; rfl
              · rw [HZ.out]; exact pairs_nil _
            | true =>
              have HZ : Hid (getB b = (⟨(K : Int), nm, ([] : List (Int × Int)), UF, UT, (X : Int)⟩, 0)) := Lib.hid (by rw [HVAL.out]; unfold fin; rw [if_neg (fun h => by
                rcases h with h | h
                · exact hbb h
                · rw [← HG.out] at h
                  cases h)])
              have hae := HNE.out.askH
              have HPE := Lib.hid (HPS.out.fr0 hFe)
              clear hah hFe
              go_wp2_with (first | (refine wpList_load_row rfl 40 _ rfl W2.heap.size rfl 40 _ (0, 0) _ hae Try.underlying40 rfl (by kernel_rfl) ?_) | (refine wpList_store_row rfl 40 _ _ rfl w.heap.size #[.int .i64 ((K : Int)), .string ⟨nm.toArray⟩, .slice (none) (([] : List (Int × Int))).length (0), .int .i64 (UF), .int .i64 (UT), .int .i64 ((X : Int))] rfl rfl 40 _ HNE.out.resH infoAsk rfl (ask_one _ _ _ _ _ _ rfl) ?_))
              have hz2 := setRow_heap We w.heap.size _ #[.int .i64 ((K : Int)), .string ⟨nm.toArray⟩, .slice (none) (([] : List (Int × Int))).length (0), .int .i64 (UF), .int .i64 (UT), .int .i64 ((X : Int))] _ _ HNE.out.resH
              have hfs : Fr (fun j => j = w.heap.size) We (We.setRow w.heap.size #[.int .i64 ((K : Int)), .string ⟨nm.toArray⟩, .slice (none) (([] : List (Int × Int))).length (0), .int .i64 (UF), .int .i64 (UT), .int .i64 ((X : Int))]) := Fr.setRow (S := fun j => j = w.heap.size) (Fr.refl _ _) (fun _ => rfl) _
              have hfe : Fr0 w (We.setRow w.heap.size #[.int .i64 ((K : Int)), .string ⟨nm.toArray⟩, .slice (none) (([] : List (Int × Int))).length (0), .int .i64 (UF), .int .i64 (UT), .int .i64 ((X : Int))]) := Fr.setRow HNE.out.fr (fun h => absurd h (Nat.lt_irrefl _)) _
              (try simp only [Exit.inBlock, Exit.then])
              refine bodyPost_ret (results_ask rfl _ _ w.heap.size _ rfl _ rfl hz2 infoAsk) rfl ⟨none, 0, ?_, ?_, hfe⟩
              · rw [HZ.out]; rfl
              · rw [HZ.out]
                exact pairs_fr HPE.out hfs HOFF.out
        · have HZ : Hid (getB b = (zero, e5)) := Lib.hid (HV.out.1 he)
          have hne : (e5 != 0) = true := bne_iff_ne.2 he
          have ked : (W10.setCell ⟨W2.heap.size, 5, none⟩ (.int .i64 (X : Int))).drew.cell? ⟨w.heap.size + 1, 1, none⟩ = some (.int .i64 (e5)) := ke
          have HND := Lib.hid (HN11.out.fr0 (Fr.refl _ _).drew)
          go_wp2
          refine Mix.law (fun X => X.cell? ⟨w.heap.size + 1, 1, none⟩ = some (.int .i64 (e5))) [(.sure, 0), (.sure, 1), (.sure, 2), (.sure, 3), (.sure, 4), (.turn, 5), (.sure, 6)] (by kernel_rfl) (by kernel_rfl) ked ?_
          simp only [List.map_cons, List.map_nil, Mix.nth_zero, Mix.nth_succ]
          repeat (first
            | (refine Mix.go_skipS (by exact Mix.wanted_no rfl rfl rfl rfl) ?_; go_frame)
            | (refine Mix.go_skipL (by exact Mix.wanted_no rfl rfl rfl rfl) ?_; go_frame)
            | (refine Mix.go_move (by first | exact Mix.wanted_none rfl | exact Mix.wanted_yes rfl rfl rfl) _ rfl _ (by first | (go_simp; done) | (go_simp; rfl)) ?_; go_frame)
            | (refine Mix.go_assign (by first | exact Mix.wanted_none rfl | exact Mix.wanted_yes rfl rfl rfl) _ rfl _ (by first | (go_simp; done) | (go_simp; rfl)) ?_; go_frame)
            | (refine Mix.go_sureW (by first | exact Mix.wanted_none rfl | exact Mix.wanted_yes rfl rfl rfl) _ (by rfl) (by rfl) _ (fun w' hC' => by go_wp2_with fail; refine Mix.stays ?_; go_frame; rfl) ?_; go_frame)
            | (refine Mix.go_lookW (by first | exact Mix.wanted_none rfl | exact Mix.wanted_yes rfl rfl rfl) _ (by rfl) (by rfl) _ (by go_wp2_with fail; refine Mix.stays ?_; go_frame; rfl) ?_; go_frame))
          refine Mix.go_turn ?_
          go_wp2_with (refine wpList_store_row rfl 40 _ _ rfl w.heap.size #[.int .i64 0, .string ⟨#[]⟩, .slice none 0 0, .int .i64 0, .int .i64 0, .int .i64 0] rfl rfl 40 _ HND.out.resH infoAsk rfl (ask_one _ _ _ _ _ _ rfl) ?_)
          have hfz : Fr (fun j => j = w.heap.size) (W10.setCell ⟨W2.heap.size, 5, none⟩ (.int .i64 (X : Int))).drew ((W10.setCell ⟨W2.heap.size, 5, none⟩ (.int .i64 (X : Int))).drew.setRow w.heap.size #[.int .i64 0, .string ⟨#[]⟩, .slice none 0 0, .int .i64 0, .int .i64 0, .int .i64 0]) := Fr.setRow (S := fun j => j = w.heap.size) (Fr.refl _ _) (fun _ => rfl) _
          have hgd' : w.heap.size + 1 < (W10.setCell ⟨W2.heap.size, 5, none⟩ (.int .i64 (X : Int))).drew.heap.size := by obtain ⟨_, hr', _⟩ := HND.out.rd; exact hr'.lt
          refine Mix.then_go ((hfz.cell (p := ⟨w.heap.size + 1, 1, none⟩) hgd' (fun h => by have h' : w.heap.size + 1 = w.heap.size := h; omega)).trans ked) ?_
          repeat (first
            | (refine Mix.go_skipS (by exact Mix.wanted_no rfl rfl rfl rfl) ?_; go_frame)
            | (refine Mix.go_skipL (by exact Mix.wanted_no rfl rfl rfl rfl) ?_; go_frame)
            | (refine Mix.go_move (by first | exact Mix.wanted_none rfl | exact Mix.wanted_yes rfl rfl rfl) _ rfl _ (by first | (go_simp; done) | (go_simp; rfl)) ?_; go_frame)
            | (refine Mix.go_assign (by first | exact Mix.wanted_none rfl | exact Mix.wanted_yes rfl rfl rfl) _ rfl _ (by first | (go_simp; done) | (go_simp; rfl)) ?_; go_frame)
            | (refine Mix.go_sureW (by first | exact Mix.wanted_none rfl | exact Mix.wanted_yes rfl rfl rfl) _ (by rfl) (by rfl) _ (fun w' hC' => by go_wp2_with fail; refine Mix.stays ?_; go_frame; rfl) ?_; go_frame)
            | (refine Mix.go_lookW (by first | exact Mix.wanted_none rfl | exact Mix.wanted_yes rfl rfl rfl) _ (by rfl) (by rfl) _ (by go_wp2_with fail; refine Mix.stays ?_; go_frame; rfl) ?_; go_frame))
          refine Mix.go_end ?_
          have HZF := Lib.hid (setRow_heap (W10.setCell ⟨W2.heap.size, 5, none⟩ (.int .i64 (X : Int))).drew w.heap.size _ #[.int .i64 0, .string ⟨#[]⟩, .slice none 0 0, .int .i64 0, .int .i64 0, .int .i64 0] _ _ HND.out.resH)
          have HFE : Hid (Fr0 w ((W10.setCell ⟨W2.heap.size, 5, none⟩ (.int .i64 (X : Int))).drew.setRow w.heap.size #[.int .i64 0, .string ⟨#[]⟩, .slice none 0 0, .int .i64 0, .int .i64 0, .int .i64 0])) := Lib.hid (Fr.setRow HND.out.fr (fun h => absurd h (Nat.lt_irrefl _)) _)
          go_wp2
          (try simp only [Exit.inBlock, Exit.then])
          refine bodyPost_ret (results_ask rfl _ _ w.heap.size _ rfl _ rfl HZF.out infoAsk) rfl ⟨none, 0, ?_, ?_, HFE.out⟩
          · rw [HZ.out]; rfl
          · rw [HZ.out]; exact pairs_nil _

      · have z1 : (e1 == 0) = false := beq_eq_false_iff_ne.2 he1
        have hby := refbytes_old w.heap.size (w.heap.size + 1) 16 b1 e1 W3 (by decide) (by omega) HN.out.rd
        go_wp2_with (first | (refine wpList_store_row rfl 40 _ _ rfl W2.heap.size #[.int .i64 (K : Int), .string ⟨#[]⟩, .slice none 0 0, .int .i64 0, .int .i64 0, .int .i64 0] rfl rfl 40 _ HGA.out infoAsk rfl (ask_one _ _ _ _ _ _ rfl) ?_; rw [← HW3.out]))
        refine hby.mono ?_
        clear hby
        rintro e W4 ⟨v4, rfl, hB4, hR4, hF4⟩
        obtain ⟨nm, hnm⟩ : ∃ x, x = refBytesOut 16 b1 e1 := ⟨_, rfl⟩
        obtain ⟨b2, hb2⟩ : ∃ x, x = refBytesRest 16 b1 e1 := ⟨_, rfl⟩
        obtain ⟨e2, he2⟩ : ∃ x, x = refBytesErr 16 b1 e1 := ⟨_, rfl⟩
        have HNL : Hid (nm.length ≤ 65535) := Lib.hid (by rw [hnm]; exact refBytesOut_le _ _ _)
        have hl2 : b2.length ≤ b1.length := by rw [hb2]; exact refBytesRest_le _ _ _
        rw [← hb2, ← he2] at hR4
        rw [← hnm] at hB4
        have HNM := Lib.hid hnm
        have HB2 := Lib.hid hb2
        have HE2 := Lib.hid he2
        have HN4 := Lib.hid (HN.out.read HAP.out hF4 hR4)
        have hcv := hB4.convert (P := Try.prog) 29 9 5 Try.underlying29 Try.underlying5 Try.underlying9
        have th1 := HN4.out.thaw 1
        have c1' := HN4.out.cells.2.1
        have HN5 := Lib.hid (HN4.out.set HAP.out 1 (.string ⟨nm.toArray⟩) (k' := (K : Int)) (nm' := ⟨nm.toArray⟩) (sv' := .slice none 0 0) (f' := 0) (t' := 0) (wn' := 0) (fun j hj => by
          match j, hj with
          | 0, _ => rfl
          | 1, _ => rfl
          | 2, _ => rfl
          | 3, _ => rfl
          | 4, _ => rfl
          | 5, _ => rfl))
        clear hnm hb2 he2 hR4 hF4 hB4 k0 k1 k2 k3 k4 k5
        have k0 := HN5.out.cells.1
        have q1 : ((K : Int) == 1) = false := beq_eq_false_iff_ne.2 hk1
        obtain ⟨W5, hW5⟩ : ∃ W5, W5 = W4.setCell ⟨W2.heap.size, 1, none⟩ (.string ⟨nm.toArray⟩) := ⟨_, rfl⟩
        rw [← hW5] at HN5 k0
        have hrn := rN_old w.heap.size (w.heap.size + 1) 8 b2 e2 W5 (by decide) (by omega) HN5.out.rd
        simp only [show ((8 : Nat) : Int) = 8 from rfl] at hrn
        rw [hW5] at hrn k0
        have HW5 := Lib.hid hW5
        clear hW5
        go_wp2_with fail
        refine hrn.mono ?_
        clear hrn
        rw [← HW5.out]
        rintro e W6 ⟨rfl, hRx, hFx⟩
        have hF8 : num (refOut 8 b2 e2) < 256 ^ 8 := num_lt_le (k := 8) (refOut_le 8 b2 e2)
        obtain ⟨F, hF⟩ : ∃ x, x = num (refOut 8 b2 e2) := ⟨_, rfl⟩
        obtain ⟨b3, hb3⟩ : ∃ x, x = refRest 8 b2 e2 := ⟨_, rfl⟩
        obtain ⟨e3, he3⟩ : ∃ x, x = refErr 8 b2 e2 := ⟨_, rfl⟩
        have hlb3 : b3.length ≤ b2.length := by rw [hb3]; exact refRest_le _ _ _
        rw [← hF] at hF8 ⊢
        rw [← hb3, ← he3] at hRx
        have HF := Lib.hid hF
        have HB3 := Lib.hid hb3
        have HE3 := Lib.hid he3
        have HN6 := Lib.hid (HN5.out.read HAP.out hFx hRx)
        clear hF hb3 he3 hRx hFx k0 hcv th1 c1'
        obtain ⟨UF, hUF⟩ : ∃ x, x = un F := ⟨_, rfl⟩
        have cuF : ∀ w, (convert 65 2 (.int .u64 (F : Int))).run Try.prog w = .ok (.int .i64 UF) w := fun w => by rw [hUF]; exact conv_un F hF8 w
        have HUF := Lib.hid hUF
        clear hUF
        have hrn := rN_old w.heap.size (w.heap.size + 1) 8 b3 e3 W6 (by decide) (by omega) HN6.out.rd
        simp only [show ((8 : Nat) : Int) = 8 from rfl] at hrn
        go_wp2_with fail
        refine hrn.mono ?_
        clear hrn
        rintro e W7 ⟨rfl, hRx, hFx⟩
        have hT8 : num (refOut 8 b3 e3) < 256 ^ 8 := num_lt_le (k := 8) (refOut_le 8 b3 e3)
        obtain ⟨T, hT⟩ : ∃ x, x = num (refOut 8 b3 e3) := ⟨_, rfl⟩
        obtain ⟨b4, hb4⟩ : ∃ x, x = refRest 8 b3 e3 := ⟨_, rfl⟩
        obtain ⟨e4, he4⟩ : ∃ x, x = refErr 8 b3 e3 := ⟨_, rfl⟩
        have hlb4 : b4.length ≤ b3.length := by rw [hb4]; exact refRest_le _ _ _
        rw [← hT] at hT8 ⊢
        rw [← hb4, ← he4] at hRx
        have HT := Lib.hid hT
        have Hb4 := Lib.hid hb4
        have He4 := Lib.hid he4
        have HN7 := Lib.hid (HN6.out.read HAP.out hFx hRx)
        clear hT hb4 he4 hRx hFx
        have f3 := HN7.out.cells.2.2.2.1
        have f4 := HN7.out.cells.2.2.2.2.1
        have th3 := HN7.out.thaw 3
        have th4 := HN7.out.thaw 4
        obtain ⟨UT, hUT⟩ : ∃ x, x = un T := ⟨_, rfl⟩
        have cuT : ∀ w, (convert 65 2 (.int .u64 (T : Int))).run Try.prog w = .ok (.int .i64 UT) w := fun w => by rw [hUT]; exact conv_un T hT8 w
        have HUT := Lib.hid hUT
        clear hUT
        have HN8 := Lib.hid (HN7.out.set HAP.out 3 (.int .i64 UF) (k' := (K : Int)) (nm' := ⟨nm.toArray⟩) (sv' := .slice none 0 0) (f' := UF) (t' := 0) (wn' := 0) (fun j hj => by
          match j, hj with
          | 0, _ => rfl
          | 1, _ => rfl
          | 2, _ => rfl
          | 3, _ => rfl
          | 4, _ => rfl
          | 5, _ => rfl))
        have HN9 := Lib.hid (HN8.out.set HAP.out 4 (.int .i64 UT) (k' := (K : Int)) (nm' := ⟨nm.toArray⟩) (sv' := .slice none 0 0) (f' := UF) (t' := UT) (wn' := 0) (fun j hj => by
          match j, hj with
          | 0, _ => rfl
          | 1, _ => rfl
          | 2, _ => rfl
          | 3, _ => rfl
          | 4, _ => rfl
          | 5, _ => rfl))
        have f4' := HN8.out.cells.2.2.2.2.1
        have th4' := HN8.out.thaw 4
        have hrn := rN_old w.heap.size (w.heap.size + 1) 1 b4 e4 _ (by decide) (by omega) HN9.out.rd
        simp only [show ((1 : Nat) : Int) = 1 from rfl] at hrn
        go_wp2_with fail
        refine hrn.mono ?_
        clear hrn
        rintro e W10 ⟨rfl, hRx, hFx⟩
        have hX8 : num (refOut 1 b4 e4) < 256 := num_lt_le (k := 1) (refOut_le 1 b4 e4)
        obtain ⟨X, hX⟩ : ∃ x, x = num (refOut 1 b4 e4) := ⟨_, rfl⟩
        obtain ⟨bb, hbb⟩ : ∃ x, x = refRest 1 b4 e4 := ⟨_, rfl⟩
        obtain ⟨e5, he5⟩ : ∃ x, x = refErr 1 b4 e4 := ⟨_, rfl⟩
        rw [← hX] at hX8 ⊢
        rw [← hbb, ← he5] at hRx
        have HN10 := Lib.hid (HN9.out.read HAP.out hFx hRx)
        have hgq := get_q HK.out HB1.out HE1.out HNM.out HB2.out HE2.out HF.out HB3.out HE3.out HT.out Hb4.out He4.out hX hbb he5 (by omega) (by omega)
        have HV : Hid ((¬ e5 = 0 → getB b = (zero, e5)) ∧ (e5 = 0 → getB b = fin ⟨(K : Int), nm, ([] : List (Int × Int)), UF, UT, (X : Int)⟩ bb)) := Lib.hid ⟨hgq.1, fun h => by
          obtain ⟨hk, hg⟩ := hgq.2 h
          rw [hg, HUF.out, HUT.out, hk]
          rfl⟩
        have f5 := HN10.out.cells.2.2.2.2.2
        have th5 := HN10.out.thaw 5
        clear hX hbb he5 hRx hFx hgq f3 f4 th3 th4 f4' th4' HN4
        have HN11 := Lib.hid (HN10.out.set HAP.out 5 (.int .i64 (X : Int)) (k' := (K : Int)) (nm' := ⟨nm.toArray⟩) (sv' := .slice none 0 0) (f' := UF) (t' := UT) (wn' := (X : Int)) (fun j hj => by
          match j, hj with
          | 0, _ => rfl
          | 1, _ => rfl
          | 2, _ => rfl
          | 3, _ => rfl
          | 4, _ => rfl
          | 5, _ => rfl))
        have HPS : Hid (PairsIs (W10.setCell ⟨W2.heap.size, 5, none⟩ (.int .i64 (X : Int))) (.slice none ([] : List (Int × Int)).length 0) ([] : List (Int × Int))) := Lib.hid (pairs_nil _)
        have HOFF : Hid (∀ q n c, Value.slice none ([] : List (Int × Int)).length 0 = .slice (some q) n c → 0 < ([] : List (Int × Int)).length → ¬ q.block = w.heap.size) := Lib.hid (fun q n c h => by cases h)
        obtain ⟨ba, bc, kl⟩ := HN11.out.left
        have ke := HN11.out.err
        by_cases he : e5 = 0
        · have HVAL := Lib.hid (HV.out.2 he)
          have ke0 : (W10.setCell ⟨W2.heap.size, 5, none⟩ (.int .i64 (X : Int))).cell? ⟨w.heap.size + 1, 1, none⟩ = some (.int .i64 0) := by rw [ke, he]
          clear ke
          by_cases hbb : 0 < bb.length
          · have HZ : Hid (getB b = (zero, 2)) := Lib.hid (by rw [HVAL.out]; unfold fin; rw [if_pos (.inl hbb)])
            go_wp2_with (first | (refine wpList_store_row rfl 40 _ _ rfl w.heap.size #[.int .i64 0, .string ⟨#[]⟩, .slice none 0 0, .int .i64 0, .int .i64 0, .int .i64 0] rfl rfl 40 _ HN11.out.resH infoAsk rfl (ask_one _ _ _ _ _ _ rfl) ?_))
            have hz2 := setRow_heap (W10.setCell ⟨W2.heap.size, 5, none⟩ (.int .i64 (X : Int))) w.heap.size _ #[.int .i64 0, .string ⟨#[]⟩, .slice none 0 0, .int .i64 0, .int .i64 0, .int .i64 0] _ _ HN11.out.resH
            have hfe : Fr0 w ((W10.setCell ⟨W2.heap.size, 5, none⟩ (.int .i64 (X : Int))).setRow w.heap.size #[.int .i64 0, .string ⟨#[]⟩, .slice none 0 0, .int .i64 0, .int .i64 0, .int .i64 0]) := Fr.setRow HN11.out.fr (fun h => absurd h (Nat.lt_irrefl _)) _
            (try simp only [Exit.inBlock, Exit.then])
            refine bodyPost_ret (results_ask rfl _ _ w.heap.size _ rfl _ rfl hz2 infoAsk) rfl ⟨none, 0, ?_, ?_, hfe⟩
            · rw [HZ.out]; rfl
            · rw [HZ.out]; exact pairs_nil _
          · have hbb0 : bb.length = 0 := by omega
            have hgd := rgood_any (none) (0) ⟨(K : Int), nm, ([] : List (Int × Int)), UF, UT, (X : Int)⟩ (show nm.length ≤ 9223372036854775807 by have := HNL.out; omega) (W10.setCell ⟨W2.heap.size, 5, none⟩ (.int .i64 (X : Int)))
            have hah := HN11.out.askH
            unfold rv at hgd
            simp only at hgd
            obtain ⟨G, hG⟩ : ∃ G, G = good ⟨(K : Int), nm, ([] : List (Int × Int)), UF, UT, (X : Int)⟩ := ⟨_, rfl⟩
            rw [← hG] at hgd
            have HG := Lib.hid hG
            clear hG
            obtain ⟨l0, l1, l2, l3, l4, l5⟩ := HN11.out.cells
            go_wp2_with (refine wpList_load_row rfl 40 _ rfl W2.heap.size rfl 40 _ (0, 0) _ hah Try.underlying40 rfl (by kernel_rfl) ?_)
            refine hgd.mono ?_
            clear hgd
            rintro e We ⟨rfl, hFe⟩
            have HNE := Lib.hid (HN11.out.fr0 hFe)
            cases G with
            | false =>
              have HZ : Hid (getB b = (zero, 2)) := Lib.hid (by rw [HVAL.out]; unfold fin; rw [if_pos (.inr HG.out.symm)])
              clear hah
              go_wp2_with (refine wpList_store_row rfl 40 _ _ rfl w.heap.size #[.int .i64 0, .string ⟨#[]⟩, .slice none 0 0, .int .i64 0, .int .i64 0, .int .i64 0] rfl rfl 40 _ HNE.out.resH infoAsk rfl (ask_one _ _ _ _ _ _ rfl) ?_)
              have hz2 := setRow_heap We w.heap.size _ #[.int .i64 0, .string ⟨#[]⟩, .slice none 0 0, .int .i64 0, .int .i64 0, .int .i64 0] _ _ HNE.out.resH
              have hfe : Fr0 w (We.setRow w.heap.size #[.int .i64 0, .string ⟨#[]⟩, .slice none 0 0, .int .i64 0, .int .i64 0, .int .i64 0]) := Fr.setRow HNE.out.fr (fun h => absurd h (Nat.lt_irrefl _)) _
              (try simp only [Exit.inBlock, Exit.then])
              refine bodyPost_ret (results_ask rfl _ _ w.heap.size _ rfl _ rfl hz2 infoAsk) rfl ⟨none, 0, ?_, ?_, hfe⟩
              · rw [HZ.out]; rfl
              · rw [HZ.out]; exact pairs_nil _
            | true =>
              have HZ : Hid (getB b = (⟨(K : Int), nm, ([] : List (Int × Int)), UF, UT, (X : Int)⟩, 0)) := Lib.hid (by rw [HVAL.out]; unfold fin; rw [if_neg (fun h => by
                rcases h with h | h
                · exact hbb h
                · rw [← HG.out] at h
                  cases h)])
              have hae := HNE.out.askH
              have HPE := Lib.hid (HPS.out.fr0 hFe)
              clear hah hFe
              go_wp2_with (first | (refine wpList_load_row rfl 40 _ rfl W2.heap.size rfl 40 _ (0, 0) _ hae Try.underlying40 rfl (by kernel_rfl) ?_) | (refine wpList_store_row rfl 40 _ _ rfl w.heap.size #[.int .i64 ((K : Int)), .string ⟨nm.toArray⟩, .slice (none) (([] : List (Int × Int))).length (0), .int .i64 (UF), .int .i64 (UT), .int .i64 ((X : Int))] rfl rfl 40 _ HNE.out.resH infoAsk rfl (ask_one _ _ _ _ _ _ rfl) ?_))
              have hz2 := setRow_heap We w.heap.size _ #[.int .i64 ((K : Int)), .string ⟨nm.toArray⟩, .slice (none) (([] : List (Int × Int))).length (0), .int .i64 (UF), .int .i64 (UT), .int .i64 ((X : Int))] _ _ HNE.out.resH
              have hfs : Fr (fun j => j = w.heap.size) We (We.setRow w.heap.size #[.int .i64 ((K : Int)), .string ⟨nm.toArray⟩, .slice (none) (([] : List (Int × Int))).length (0), .int .i64 (UF), .int .i64 (UT), .int .i64 ((X : Int))]) := Fr.setRow (S := fun j => j = w.heap.size) (Fr.refl _ _) (fun _ => rfl) _
              have hfe : Fr0 w (We.setRow w.heap.size #[.int .i64 ((K : Int)), .string ⟨nm.toArray⟩, .slice (none) (([] : List (Int × Int))).length (0), .int .i64 (UF), .int .i64 (UT), .int .i64 ((X : Int))]) := Fr.setRow HNE.out.fr (fun h => absurd h (Nat.lt_irrefl _)) _
              (try simp only [Exit.inBlock, Exit.then])
              refine bodyPost_ret (results_ask rfl _ _ w.heap.size _ rfl _ rfl hz2 infoAsk) rfl ⟨none, 0, ?_, ?_, hfe⟩
              · rw [HZ.out]; rfl
              · rw [HZ.out]
                exact pairs_fr HPE.out hfs HOFF.out
        · have HZ : Hid (getB b = (zero, e5)) := Lib.hid (HV.out.1 he)
          have hne : (e5 != 0) = true := bne_iff_ne.2 he
          have ked : (W10.setCell ⟨W2.heap.size, 5, none⟩ (.int .i64 (X : Int))).drew.cell? ⟨w.heap.size + 1, 1, none⟩ = some (.int .i64 (e5)) := ke
          have HND := Lib.hid (HN11.out.fr0 (Fr.refl _ _).drew)
          go_wp2
          refine Mix.law (fun X => X.cell? ⟨w.heap.size + 1, 1, none⟩ = some (.int .i64 (e5))) [(.sure, 0), (.sure, 1), (.sure, 2), (.sure, 3), (.sure, 4), (.turn, 5), (.sure, 6)] (by kernel_rfl) (by kernel_rfl) ked ?_
          simp only [List.map_cons, List.map_nil, Mix.nth_zero, Mix.nth_succ]
          repeat (first
            | (refine Mix.go_skipS (by exact Mix.wanted_no rfl rfl rfl rfl) ?_; go_frame)
            | (refine Mix.go_skipL (by exact Mix.wanted_no rfl rfl rfl rfl) ?_; go_frame)
            | (refine Mix.go_move (by first | exact Mix.wanted_none rfl | exact Mix.wanted_yes rfl rfl rfl) _ rfl _ (by first | (go_simp; done) | (go_simp; rfl)) ?_; go_frame)
            | (refine Mix.go_assign (by first | exact Mix.wanted_none rfl | exact Mix.wanted_yes rfl rfl rfl) _ rfl _ (by first | (go_simp; done) | (go_simp; rfl)) ?_; go_frame)
            | (refine Mix.go_sureW (by first | exact Mix.wanted_none rfl | exact Mix.wanted_yes rfl rfl rfl) _ (by rfl) (by rfl) _ (fun w' hC' => by go_wp2_with fail; refine Mix.stays ?_; go_frame; rfl) ?_; go_frame)
            | (refine Mix.go_lookW (by first | exact Mix.wanted_none rfl | exact Mix.wanted_yes rfl rfl rfl) _ (by rfl) (by rfl) _ (by go_wp2_with fail; refine Mix.stays ?_; go_frame; rfl) ?_; go_frame))
          refine Mix.go_turn ?_
          go_wp2_with (refine wpList_store_row rfl 40 _ _ rfl w.heap.size #[.int .i64 0, .string ⟨#[]⟩, .slice none 0 0, .int .i64 0, .int .i64 0, .int .i64 0] rfl rfl 40 _ HND.out.resH infoAsk rfl (ask_one _ _ _ _ _ _ rfl) ?_)
          have hfz : Fr (fun j => j = w.heap.size) (W10.setCell ⟨W2.heap.size, 5, none⟩ (.int .i64 (X : Int))).drew ((W10.setCell ⟨W2.heap.size, 5, none⟩ (.int .i64 (X : Int))).drew.setRow w.heap.size #[.int .i64 0, .string ⟨#[]⟩, .slice none 0 0, .int .i64 0, .int .i64 0, .int .i64 0]) := Fr.setRow (S := fun j => j = w.heap.size) (Fr.refl _ _) (fun _ => rfl) _
          have hgd' : w.heap.size + 1 < (W10.setCell ⟨W2.heap.size, 5, none⟩ (.int .i64 (X : Int))).drew.heap.size := by obtain ⟨_, hr', _⟩ := HND.out.rd; exact hr'.lt
          refine Mix.then_go ((hfz.cell (p := ⟨w.heap.size + 1, 1, none⟩) hgd' (fun h => by have h' : w.heap.size + 1 = w.heap.size := h; omega)).trans ked) ?_
          repeat (first
            | (refine Mix.go_skipS (by exact Mix.wanted_no rfl rfl rfl rfl) ?_; go_frame)
            | (refine Mix.go_skipL (by exact Mix.wanted_no rfl rfl rfl rfl) ?_; go_frame)
            | (refine Mix.go_move (by first | exact Mix.wanted_none rfl | exact Mix.wanted_yes rfl rfl rfl) _ rfl _ (by first | (go_simp; done) | (go_simp; rfl)) ?_; go_frame)
            | (refine Mix.go_assign (by first | exact Mix.wanted_none rfl | exact Mix.wanted_yes rfl rfl rfl) _ rfl _ (by first | (go_simp; done) | (go_simp; rfl)) ?_; go_frame)
            | (refine Mix.go_sureW (by first | exact Mix.wanted_none rfl | exact Mix.wanted_yes rfl rfl rfl) _ (by rfl) (by rfl) _ (fun w' hC' => by go_wp2_with fail; refine Mix.stays ?_; go_frame; rfl) ?_; go_frame)
            | (refine Mix.go_lookW (by first | exact Mix.wanted_none rfl | exact Mix.wanted_yes rfl rfl rfl) _ (by rfl) (by rfl) _ (by go_wp2_with fail; refine Mix.stays ?_; go_frame; rfl) ?_; go_frame))
          refine Mix.go_end ?_
          have HZF := Lib.hid (setRow_heap (W10.setCell ⟨W2.heap.size, 5, none⟩ (.int .i64 (X : Int))).drew w.heap.size _ #[.int .i64 0, .string ⟨#[]⟩, .slice none 0 0, .int .i64 0, .int .i64 0, .int .i64 0] _ _ HND.out.resH)
          have HFE : Hid (Fr0 w ((W10.setCell ⟨W2.heap.size, 5, none⟩ (.int .i64 (X : Int))).drew.setRow w.heap.size #[.int .i64 0, .string ⟨#[]⟩, .slice none 0 0, .int .i64 0, .int .i64 0, .int .i64 0])) := Lib.hid (Fr.setRow HND.out.fr (fun h => absurd h (Nat.lt_irrefl _)) _)
          go_wp2
          (try simp only [Exit.inBlock, Exit.then])
          refine bodyPost_ret (results_ask rfl _ _ w.heap.size _ rfl _ rfl HZF.out infoAsk) rfl ⟨none, 0, ?_, ?_, HFE.out⟩
          · rw [HZ.out]; rfl
          · rw [HZ.out]; exact pairs_nil _

end Go.Proofs.Ytemfohccnpopfaa.Ask
