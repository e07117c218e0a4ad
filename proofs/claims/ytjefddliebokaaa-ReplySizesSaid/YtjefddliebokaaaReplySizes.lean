/-
  ReplySizes walked.
-/
import Derived.Test.YtjefddliebokaaaReplyShare
import Derived.Test.YtjefddliebokaaaAppend
import Derived.BigQuiet
namespace Go.Proofs.Ytjefddliebokaaa.ReplyL
open Go.RowKit Base Pack _root_.Go.Proofs.Ytjefddliebokaaa.Reply

set_option maxRecDepth 100000 in
set_option maxHeartbeats 8000000 in
theorem replySizes_walk (L : List Rp) (v0 : Value) (hll : L.length ≤ 9223372036854775807) (hsz : ∀ q ∈ L, SizedR q) (w : World) (hI : Reps w (fun _ => False) v0 L) :
    Calls Try.prog 8 #[v0] w fun e w' => e = .returned (.bool true) ∧ Fr0 w w' := by
  obtain ⟨A, C, rfl⟩ := hI.form
  have HI := Lib.hid hI
  have HSZ : Hid (∀ i, i < L.length → SizedR (L.getD i zero)) := Lib.hid (fun i hi => hsz _ (by rw [List.getD_eq_getElem?_getD, List.getElem?_eq_getElem hi]; exact List.getElem_mem hi))
  clear hI hsz
  generalize hN : L.length = N at *
  have HN := Lib.hid hN
  clear hN
  go_enter Try.func8, Try.ntmps8
  go_wp2_with fail
  refine (awake_any _).mono ?_
  rintro e W1 ⟨rfl, hF1⟩
  have HF1 := Lib.hid hF1
  clear hF1
  by_cases h20 : 20 < (N : Int)
  ·
    go_wp2
    go_ret
    exact ⟨rfl, HF1.out⟩
  ·
    go_wp2_with fail
    go_loopg [3] N (fun kx vi wr => ∃ (i : Nat), vi = .int .i64 (i : Int) ∧ i ≤ N ∧ N - i ≤ kx ∧ Hid (Fr0 w wr))
    case atStart => exact ⟨0, rfl, Nat.zero_le _, by omega, HF1⟩
    case round =>
      obtain ⟨i, rfl, hi, hk, HFR⟩ := hrel
      by_cases hlt : i < N
      · obtain ⟨pb, po, B1, D1, rfl, hc1, hb1⟩ := reps_at HI.out i (by have := HN.out; omega)
        have HSQ := Lib.hid (HSZ.out i hlt)
        have i1 : (i : Int) < (N : Int) := by omega
        have i2 : 0 ≤ (i : Int) := by omega
        have HC1 := Lib.hid hc1
        have HBQ := Lib.hid hb1
        clear hc1 hb1
        generalize L.getD i zero = q at *
        cases hg : good q with
        | true =>
          have hput := pput_good hg B1 D1 HSQ.out.1 wr (HBQ.out.fr0 HFR.out)
          have hpg := fun w => pgood_any B1 D1 q HSQ.out.2.1 w
          rw [hg] at hpg
          unfold rp4 at hput hpg
          have HPG := Lib.hid hpg
          clear hpg
          have hpl := putB_length q
          have hbl := ((good_iff q).1 hg).2.1
          have hgt := fun (v : Value) w hB => pget_put (r := q) [1, 2, 3] hg HSQ.out.1 (by decide) v w hB
          unfold rp4 at hgt
          have HGT := Lib.hid hgt
          clear hgt
          have HPL := Lib.hid hpl
          have hpl2 : (putB q).length ≤ 263 := by omega
          clear hpl
          have hx1 : wrap64 (8 + (q.body.length : Int)) = 8 + (q.body.length : Int) := by simp only [wrap64]; omega
          obtain ⟨k0, k1, k2, k3⟩ := HC1.out wr HFR.out
          go_wp2_with fail
          refine hput.mono ?_
          clear hput k0 k1 k2 k3
          rintro e W2 ⟨A2, C2, rfl, hX2, hF2⟩
          have HF2 := Lib.hid (HFR.out.trans' hF2)
          have HX2 := Lib.hid hX2
          clear hX2 hF2
          obtain ⟨k0, k1, k2, k3⟩ := HC1.out W2 HF2.out
          go_wp2_with fail
          refine (HPG.out W2).mono ?_
          clear k0 k1 k2 k3
          rintro e W3 ⟨rfl, hF3⟩
          have HF3 := Lib.hid (HF2.out.trans' hF3)
          have HX3 := Lib.hid (HX2.out.fr0 hF3)
          clear hF3 HX2 HPG
          have k3 := (HC1.out W3 HF3.out).2.2.2
          have hln : (((putB q).length : Int) == 8 + (q.body.length : Int)) = true := beq_iff_eq.2 (by have := HPL.out; omega)
          have hlm : (((putB q).length : Int) != 8 + (q.body.length : Int)) = false := by
            rw [beq_iff_eq.1 hln]
            exact bne_self_eq_false _
          have HFA : Hid (Fr0 W3 (W3.alloc (.cells #[] 5))) := Lib.hid ((Fr.refl _ _).alloc _)
          go_wp2_with (refine wpList_append_bytes rfl (.tmp 62) (.tmp 63) 25 rfl W3.heap.size 5 Try.underlying25 Pack.info8 _ _ 0 [] (putB q) rfl rfl (owns_empty W3 W3.heap.size _ (Nat.le_refl _) _ rfl) (HX3.out.fr0 HFA.out) (by omega) HFA.out.size ?_)
          intro v4 W4 hO4 hG4
          have hF4 := HFA.out.grown hG4 (fun k hk e => by cases e; exact absurd hk (Nat.lt_irrefl _))
          have HF4 := Lib.hid (HF3.out.trans' hF4)
          have HX4 := Lib.hid (HX3.out.fr0 hF4)
          have HO4 : Hid (W4.ownsRow W3.heap.size 5 1 v4 (putB q).length (bvals (putB q))) := Lib.hid (by simpa using hO4)
          have HFA4 := Lib.hid hF4
          obtain ⟨A4, C4, hv4, _⟩ := owns_form HO4.out
          subst hv4
          clear hO4 hG4 hF4 HX3 k3
          have HLIT : Hid (BytesIs (W4.alloc (.cells #[.int .u8 1, .int .u8 2, .int .u8 3] 5)) (.slice (some ⟨W4.heap.size, 0, none⟩) 3 3) [1, 2, 3]) := Lib.hid (BytesIs.new W4 _ _ _ 3 rfl 3 (Nat.le_refl _) (fun j hj => by
            match j, hj with
            | 0, _ => rfl
            | 1, _ => rfl
            | 2, _ => rfl) _ rfl)
          go_wp2_with (refine wpList_append_bytes rfl (.tmp 64) (.tmp 65) 25 rfl W3.heap.size 5 Try.underlying25 Pack.info8 _ _ (putB q).length (putB q) [1, 2, 3] rfl rfl (ownsFr ((Fr.refl (fun _ => False) W4).alloc _) HO4.out (fun _ _ f => f)) HLIT.out (by simp; omega) (HFA4.out.alloc _).size ?_)
          intro v5 W5 hO5 hG5
          have hF5 : Fr0 W3 W5 := (HFA4.out.alloc _).grown hG5 (fun k hk e => by have := (HO4.out.lt k e).1; omega)
          have HF5 := Lib.hid (HF3.out.trans' hF5)
          have hB5 : BytesIs W5 v5 (putB q ++ [1, 2, 3]) := BytesIs.own hO5
          obtain ⟨A5, C5, hv5⟩ := hB5.form
          obtain ⟨Z5, hZ5⟩ : ∃ Z, Z = (putB q ++ [1, 2, 3]).length := ⟨_, rfl⟩
          rw [← hZ5] at hv5
          clear hZ5
          subst hv5
          have HB5 := Lib.hid hB5
          clear hO5 hG5 hB5 HLIT HO4
          go_wp2_with fail
          refine (HGT.out _ W5 HB5.out).mono ?_
          clear HGT
          rintro e W6 ⟨A6, C6, rfl, hQ6, hF6⟩
          have hg6 := heap_alloc_new W6 (.cells #[.int .i64 0, .bool false, .int .u32 0, .slice none 0 0] 27)
          obtain ⟨W7, hW6⟩ : ∃ W', W' = (W6.alloc (.cells #[.int .i64 0, .bool false, .int .u32 0, .slice none 0 0] 27)).setRow W6.heap.size #[.int .i64 q.st, .bool q.hit, .int .u32 (q.slot : Int), .slice A6 q.body.length C6] := ⟨_, rfl⟩
          have hr6 := setRow_heap _ W6.heap.size _ #[.int .i64 q.st, .bool q.hit, .int .u32 (q.slot : Int), .slice A6 q.body.length C6] _ _ hg6
          rw [← hW6] at hr6
          have hf6 : Fr0 W6 W7 := by rw [hW6]; exact Fr.setRow ((Fr.refl _ _).alloc _) (fun h => absurd h (Nat.lt_irrefl _)) _
          have HKR6 := Lib.hid hr6
          have HKW6 := Lib.hid hW6
          have HKG6 := Lib.hid hg6
          have HKF6 := Lib.hid hf6
          clear hg6 hW6 hr6 hf6
          have HF7 := Lib.hid ((HF5.out.trans' hF6).trans' HKF6.out)
          have HQ7 := Lib.hid (hQ6.fr0 HKF6.out)
          have hbx := Bx.of_heap HKR6.out
          clear hF6 hQ6
          go_wp2_with (refine wpList_store_row rfl 27 _ _ rfl W6.heap.size #[.int .i64 q.st, .bool q.hit, .int .u32 (q.slot : Int), .slice A6 q.body.length C6] rfl rfl 27 _ HKG6.out infoP rfl (rp4_one (.slice A6 q.body.length C6) q rfl) ?_; rw [← HKW6.out])
          have hcl : ∀ X, Fr0 W7 X → (X.cell? ⟨W6.heap.size, 0, none⟩ = some (.int .i64 q.st) ∧ X.cell? ⟨W6.heap.size, 1, none⟩ = some (.bool q.hit) ∧ X.cell? ⟨W6.heap.size, 2, none⟩ = some (.int .u32 (q.slot : Int)) ∧ X.cell? ⟨W6.heap.size, 3, none⟩ = some (.slice A6 q.body.length C6) ∧ X.cell? ⟨pb, po + i * 4, none⟩ = some (.int .i64 q.st) ∧ X.cell? ⟨pb, po + i * 4 + 1, none⟩ = some (.bool q.hit) ∧ X.cell? ⟨pb, po + i * 4 + 2, none⟩ = some (.int .u32 (q.slot : Int)) ∧ X.cell? ⟨pb, po + i * 4 + 3, none⟩ = some (.slice B1 q.body.length D1)) := fun X h => by
            obtain ⟨a1, a2, a3, a4⟩ := (hbx.fr0 h).cells
            obtain ⟨b1, b2, b3, b4⟩ := HC1.out X (HF7.out.trans' h)
            exact ⟨a1, a2, a3, a4, b1, b2, b3, b4⟩
          have HCL := Lib.hid hcl
          clear hcl hbx HKR6 HKW6 HKG6 HKF6
          refine Mix.law (fun X => (X.cell? ⟨W6.heap.size, 0, none⟩ = some (.int .i64 q.st) ∧ X.cell? ⟨W6.heap.size, 1, none⟩ = some (.bool q.hit) ∧ X.cell? ⟨W6.heap.size, 2, none⟩ = some (.int .u32 (q.slot : Int)) ∧ X.cell? ⟨W6.heap.size, 3, none⟩ = some (.slice A6 q.body.length C6) ∧ X.cell? ⟨pb, po + i * 4, none⟩ = some (.int .i64 q.st) ∧ X.cell? ⟨pb, po + i * 4 + 1, none⟩ = some (.bool q.hit) ∧ X.cell? ⟨pb, po + i * 4 + 2, none⟩ = some (.int .u32 (q.slot : Int)) ∧ X.cell? ⟨pb, po + i * 4 + 3, none⟩ = some (.slice B1 q.body.length D1))) [(.sure, 0), (.sure, 1), (.sure, 2), (.sure, 3), (.sure, 4), (.sure, 5), (.sure, 6), (.sure, 7), (.sure, 8), (.sure, 9), (.sure, 10), (.sure, 11), (.sure, 12), (.sure, 14), (.sure, 15), (.sure, 16), (.sure, 17), (.turn, 13), (.turn, 18), (.turn, 19), (.sure, 20), (.sure, 21), (.sure, 22)] (by kernel_rfl) (by kernel_rfl) (HCL.out _ (Fr.refl _ _).drew) ?_
          simp only [List.map_cons, List.map_nil, Mix.nth_zero, Mix.nth_succ]
          have HDR := Lib.hid ((Fr.refl (fun _ => False) W7).drew)
          generalize W7.drew = wd at *
          repeat (first
            | (refine Mix.go_skipS (by first | exact Mix.wanted_no rfl rfl rfl rfl | exact Mix.wanted_void rfl rfl rfl) ?_; go_frame)
            | (refine Mix.go_skipL (by first | exact Mix.wanted_no rfl rfl rfl rfl | exact Mix.wanted_void rfl rfl rfl) ?_; go_frame)
            | (refine Mix.go_move (by first | exact Mix.wanted_none rfl | exact Mix.wanted_yes rfl rfl rfl) _ rfl _ (by first | (go_simp; done) | (go_simp; rfl)) ?_; go_frame)
            | (refine Mix.go_assign (by first | exact Mix.wanted_none rfl | exact Mix.wanted_yes rfl rfl rfl) _ rfl _ (by first | (go_simp; done) | (go_simp; rfl)) ?_; go_frame)
            | (refine Mix.go_sureW (by first | exact Mix.wanted_none rfl | exact Mix.wanted_yes rfl rfl rfl) _ (by rfl) (by rfl) _ (fun w' ⟨hC1, hC2, hC3, hC4, hC5, hC6, hC7, hC8⟩ => by go_wp2_with fail; refine Mix.stays ?_; go_frame; rfl) ?_; go_frame)
            | (refine Mix.go_lookW (by first | exact Mix.wanted_none rfl | exact Mix.wanted_yes rfl rfl rfl) _ (by rfl) (by rfl) _ (by go_wp2_with fail; refine Mix.stays ?_; go_frame; rfl) ?_; go_frame))
          have HOR := Lib.hid (fun w => own_any A6 q.body.length C6 q w)
          have HOQ := Lib.hid (fun w => own_any B1 q.body.length D1 q w)
          have HSS := Lib.hid (fun w hA hB => same_self A6 B1 C6 D1 q w hA hB)
          unfold rp4 at HOR HOQ HSS
          refine Mix.go_turn ?_
          go_wp2_with fail
          refine (HOR.out wd).mono ?_
          rintro e wa ⟨rfl, hFa⟩
          have HFA := Lib.hid (HDR.out.trans' hFa)
          clear hFa
          go_wp2
          refine Mix.then_go (HCL.out _ HFA.out) ?_
          refine Mix.go_turn ?_
          go_wp2_with fail
          refine (HOQ.out wa).mono ?_
          rintro e wb ⟨rfl, hFa⟩
          have HFB := Lib.hid (HFA.out.trans' hFa)
          clear hFa
          go_wp2
          refine Mix.then_go (HCL.out _ HFB.out) ?_
          refine Mix.go_turn ?_
          go_wp2_with fail
          refine (HSS.out wb (HQ7.out.fr0 HFB.out) (HBQ.out.fr0 (HF7.out.trans' HFB.out))).mono ?_
          rintro e we ⟨rfl, hFa⟩
          have HFE := Lib.hid (HFB.out.trans' hFa)
          clear hFa
          go_wp2
          refine Mix.then_go (HCL.out _ HFE.out) ?_
          repeat (first
            | (refine Mix.go_skipS (by first | exact Mix.wanted_no rfl rfl rfl rfl | exact Mix.wanted_void rfl rfl rfl) ?_; go_frame)
            | (refine Mix.go_skipL (by first | exact Mix.wanted_no rfl rfl rfl rfl | exact Mix.wanted_void rfl rfl rfl) ?_; go_frame)
            | (refine Mix.go_move (by first | exact Mix.wanted_none rfl | exact Mix.wanted_yes rfl rfl rfl) _ rfl _ (by first | (go_simp; done) | (go_simp; rfl)) ?_; go_frame)
            | (refine Mix.go_assign (by first | exact Mix.wanted_none rfl | exact Mix.wanted_yes rfl rfl rfl) _ rfl _ (by first | (go_simp; done) | (go_simp; rfl)) ?_; go_frame)
            | (refine Mix.go_sureW (by first | exact Mix.wanted_none rfl | exact Mix.wanted_yes rfl rfl rfl) _ (by rfl) (by rfl) _ (fun w' ⟨hC1, hC2, hC3, hC4, hC5, hC6, hC7, hC8⟩ => by go_wp2_with fail; refine Mix.stays ?_; go_frame; rfl) ?_; go_frame)
            | (refine Mix.go_lookW (by first | exact Mix.wanted_none rfl | exact Mix.wanted_yes rfl rfl rfl) _ (by rfl) (by rfl) _ (by go_wp2_with fail; refine Mix.stays ?_; go_frame; rfl) ?_; go_frame))
          refine Mix.go_end ?_
          have HFZ := Lib.hid (HF7.out.trans' HFE.out)
          go_wp2
          go_roundg (N - (i + 1))
          case measure => omega
          case rel => exact ⟨i + 1, by simp, by omega, by omega, HFZ⟩
        | false =>
          have hput := pput_bad hg B1 D1 HSQ.out.1 HSQ.out.2.1 wr (HBQ.out.fr0 HFR.out)
          have hpg := fun w => pgood_any B1 D1 q HSQ.out.2.1 w
          rw [hg] at hpg
          unfold rp4 at hput hpg
          have HPG := Lib.hid hpg
          clear hpg
          have hgt := fun (v : Value) w hB => pget_any v [1, 2, 3] (by decide) w hB
          unfold GetPost rp4 at hgt
          have HGT := Lib.hid hgt
          clear hgt
          obtain ⟨k0, k1, k2, k3⟩ := HC1.out wr HFR.out
          go_wp2_with fail
          refine hput.mono ?_
          clear hput k0 k1 k2 k3
          rintro e W2 ⟨A2, C2, rfl, hX2, hF2⟩
          have HF2 := Lib.hid (HFR.out.trans' hF2)
          have HX2 := Lib.hid hX2
          clear hX2 hF2
          obtain ⟨k0, k1, k2, k3⟩ := HC1.out W2 HF2.out
          go_wp2_with fail
          refine (HPG.out W2).mono ?_
          clear k0 k1 k2 k3
          rintro e W3 ⟨rfl, hF3⟩
          have HF3 := Lib.hid (HF2.out.trans' hF3)
          have HX3 := Lib.hid (HX2.out.fr0 hF3)
          clear hF3 HX2 HPG
          have k3 := (HC1.out W3 HF3.out).2.2.2
          have HFA : Hid (Fr0 W3 (W3.alloc (.cells #[] 5))) := Lib.hid ((Fr.refl _ _).alloc _)
          go_wp2_with (refine wpList_append_bytes rfl (.tmp 62) (.tmp 63) 25 rfl W3.heap.size 5 Try.underlying25 Pack.info8 _ _ 0 [] (([] : List UInt8)) rfl rfl (owns_empty W3 W3.heap.size _ (Nat.le_refl _) _ rfl) (HX3.out.fr0 HFA.out) (by decide) HFA.out.size ?_)
          intro v4 W4 hO4 hG4
          have hF4 := HFA.out.grown hG4 (fun k hk e => by cases e; exact absurd hk (Nat.lt_irrefl _))
          have HF4 := Lib.hid (HF3.out.trans' hF4)
          have HX4 := Lib.hid (HX3.out.fr0 hF4)
          have HO4 : Hid (W4.ownsRow W3.heap.size 5 1 v4 0 (bvals (([] : List UInt8)))) := Lib.hid (by simpa using hO4)
          have HFA4 := Lib.hid hF4
          obtain ⟨A4, C4, hv4, _⟩ := owns_form HO4.out
          subst hv4
          clear hO4 hG4 hF4 HX3 k3
          have HLIT : Hid (BytesIs (W4.alloc (.cells #[.int .u8 1, .int .u8 2, .int .u8 3] 5)) (.slice (some ⟨W4.heap.size, 0, none⟩) 3 3) [1, 2, 3]) := Lib.hid (BytesIs.new W4 _ _ _ 3 rfl 3 (Nat.le_refl _) (fun j hj => by
            match j, hj with
            | 0, _ => rfl
            | 1, _ => rfl
            | 2, _ => rfl) _ rfl)
          go_wp2_with (refine wpList_append_bytes rfl (.tmp 64) (.tmp 65) 25 rfl W3.heap.size 5 Try.underlying25 Pack.info8 _ _ 0 (([] : List UInt8)) [1, 2, 3] rfl rfl (ownsFr ((Fr.refl (fun _ => False) W4).alloc _) HO4.out (fun _ _ f => f)) HLIT.out (by decide) (HFA4.out.alloc _).size ?_)
          intro v5 W5 hO5 hG5
          have hF5 : Fr0 W3 W5 := (HFA4.out.alloc _).grown hG5 (fun k hk e => by have := (HO4.out.lt k e).1; omega)
          have HF5 := Lib.hid (HF3.out.trans' hF5)
          have hB5 : BytesIs W5 v5 ([1, 2, 3]) := BytesIs.own hO5
          obtain ⟨A5, C5, hv5⟩ := hB5.form
          subst hv5
          have HB5 := Lib.hid hB5
          clear hO5 hG5 hB5 HLIT HO4
          go_wp2_with fail
          refine (HGT.out _ W5 HB5.out).mono ?_
          clear HGT
          generalize getB [1, 2, 3] = G at *
          obtain ⟨g, n, er⟩ := G
          simp only
          rintro e W6 ⟨A6, C6, rfl, hQ6, _, hF6⟩
          have hg6 := heap_alloc_new W6 (.cells #[.int .i64 0, .bool false, .int .u32 0, .slice none 0 0] 27)
          obtain ⟨W7, hW6⟩ : ∃ W', W' = (W6.alloc (.cells #[.int .i64 0, .bool false, .int .u32 0, .slice none 0 0] 27)).setRow W6.heap.size #[.int .i64 g.st, .bool g.hit, .int .u32 (g.slot : Int), .slice A6 g.body.length C6] := ⟨_, rfl⟩
          have hr6 := setRow_heap _ W6.heap.size _ #[.int .i64 g.st, .bool g.hit, .int .u32 (g.slot : Int), .slice A6 g.body.length C6] _ _ hg6
          rw [← hW6] at hr6
          have hf6 : Fr0 W6 W7 := by rw [hW6]; exact Fr.setRow ((Fr.refl _ _).alloc _) (fun h => absurd h (Nat.lt_irrefl _)) _
          have HKR6 := Lib.hid hr6
          have HKW6 := Lib.hid hW6
          have HKG6 := Lib.hid hg6
          have HKF6 := Lib.hid hf6
          clear hg6 hW6 hr6 hf6
          have HF7 := Lib.hid ((HF5.out.trans' hF6).trans' HKF6.out)
          have HQ7 := Lib.hid (hQ6.fr0 HKF6.out)
          have hbx := Bx.of_heap HKR6.out
          clear hF6 hQ6
          go_wp2_with (refine wpList_store_row rfl 27 _ _ rfl W6.heap.size #[.int .i64 g.st, .bool g.hit, .int .u32 (g.slot : Int), .slice A6 g.body.length C6] rfl rfl 27 _ HKG6.out infoP rfl (rp4_one (.slice A6 g.body.length C6) g rfl) ?_; rw [← HKW6.out])
          have hcl : ∀ X, Fr0 W7 X → (X.cell? ⟨W6.heap.size, 0, none⟩ = some (.int .i64 g.st) ∧ X.cell? ⟨W6.heap.size, 1, none⟩ = some (.bool g.hit) ∧ X.cell? ⟨W6.heap.size, 2, none⟩ = some (.int .u32 (g.slot : Int)) ∧ X.cell? ⟨W6.heap.size, 3, none⟩ = some (.slice A6 g.body.length C6) ∧ X.cell? ⟨pb, po + i * 4, none⟩ = some (.int .i64 q.st) ∧ X.cell? ⟨pb, po + i * 4 + 1, none⟩ = some (.bool q.hit) ∧ X.cell? ⟨pb, po + i * 4 + 2, none⟩ = some (.int .u32 (q.slot : Int)) ∧ X.cell? ⟨pb, po + i * 4 + 3, none⟩ = some (.slice B1 q.body.length D1)) := fun X h => by
            obtain ⟨a1, a2, a3, a4⟩ := (hbx.fr0 h).cells
            obtain ⟨b1, b2, b3, b4⟩ := HC1.out X (HF7.out.trans' h)
            exact ⟨a1, a2, a3, a4, b1, b2, b3, b4⟩
          have HCL := Lib.hid hcl
          clear hcl hbx HKR6 HKW6 HKG6 HKF6
          go_quiet (fail)
          have HFZ := Lib.hid (HF7.out.trans' ((Fr.refl (fun _ => False) W7).drewN nq))
          generalize W7.drewN nq = w9 at *
          go_wp2
          go_roundg (N - (i + 1))
          case measure => omega
          case rel => exact ⟨i + 1, by simp, by omega, by omega, HFZ⟩
      · obtain rfl : i = N := by omega
        go_wp2
        go_ret
        exact ⟨rfl, HFR.out⟩
end Go.Proofs.Ytjefddliebokaaa.ReplyL
