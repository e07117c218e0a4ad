/-
  The program's ID, Seal, Open; slices.Grow from nil, slices.Concat over rows of bytes.
-/
import Derived.Test.YteafnknghnhlgaaDoorTokenRef
import Derived.Test.YteafnknghnhlgaaDoorMacWalk
import Derived.Test.YteafnknghnhlgaaDoorPackRead
import Derived.Test.YteafnknghnhlgaaDoorAppendMake
import Derived.Test.YteafnknghnhlgaaDoorCutB
namespace Go.Proofs.YteafnknghnhlgaaDoor.Token
open Go.RowKit Base Pack

theorem owns_none {w : World} {base : Nat} {e : TypeId} {g n cap : Nat} {xs : List Value} (h : w.ownsRow base e 1 (.slice (some ⟨g, 0, none⟩) n cap) n xs) : w.ownsRow base e 1 (.slice (some ⟨g, 0, none⟩) 0 cap) 0 (bvals []) := by
  refine ⟨rfl, .inr ?_⟩
  rcases h.2 with ⟨h, _⟩ | ⟨g', cap', cur, hv, hb, hg, h1, h2, h3, _⟩
  · cases h
  · cases hv
    exact ⟨g, cap, cur, rfl, hb, hg, Nat.zero_le _, h2, h3, rfl⟩
set_option maxHeartbeats 1000000 in
theorem grow_any (n : Nat) (hn : n ≤ 1099511627776) (w : World) :
    Calls Tryd.prog 28 #[.slice none 0 0, .int .i64 (n : Int)] w fun e w' => ∃ v', e = .returned v' ∧ w'.ownsRow w.heap.size 5 1 v' 0 (bvals []) ∧ Fr0 w w' := by
  have z1 : wrap64 ((n : Int) - 0) = (n : Int) := by simp only [wrap64]; omega
  by_cases h0 : n = 0
  · subst h0
    go_enter Tryd.func28, Tryd.ntmps28
    go_wp2
    go_ret
    exact ⟨_, rfl, World.ownsRow_nil _ _ _ _, Fr.refl _ _⟩
  · have h1 : (0 : Int) < (n : Int) := by omega
    have hs0 := fun wx : World => cut_hi_at (P := Tryd.prog) 23 5 Tryd.underlying23 (by kernel_rfl) none 0 0 0 (by omega) wx
    go_enter Tryd.func28, Tryd.ntmps28
    go_wp2_with (refine wpList_append_make_bytes rfl (.tmp 20) (.tmp 21) 23 3 rfl w.heap.size 5 Tryd.underlying23 Tryd.underlying3 info8 _ 0 n [] rfl rfl (World.ownsRow_nil _ _ _ _) (by omega) (Nat.le_refl _) ?_)
    intro v1 w1 hO1 hG1
    have hO := hO1
    obtain ⟨g, C, rfl, _, _⟩ := hO.form (by omega)
    have hs1 := fun wx : World => cut_hi_at (P := Tryd.prog) 23 5 Tryd.underlying23 (by kernel_rfl) (some ⟨g, 0, none⟩) n C 0 (by omega) wx
    have HO := Lib.hid (owns_none hO)
    have HF : Hid (Fr0 w w1) := Lib.hid (Fr.of_grown hG1 (fun k hk e => by cases e))
    clear hO1 hG1 hO
    go_wp2
    go_ret
    exact ⟨_, rfl, HO.out, HF.out⟩
set_option maxHeartbeats 2000000 in
theorem concat_any (v : Value) (ps : List (List UInt8)) (hl : ps.flatten.length ≤ 1099511627776) (w : World) (hP : PartsIs w v ps) :
    Calls Tryd.prog 17 #[v] w fun e w' => ∃ v', e = .returned v' ∧ w'.ownsRow w.heap.size 5 1 v' ps.flatten.length (bvals ps.flatten) ∧ Fr0 w w' := by
  obtain ⟨a, cap, qb, qo, rfl, hcap, hps, ha, hparts⟩ := hP
  have HA := Lib.hid ha
  have HP := Lib.hid hparts
  clear ha hparts
  obtain ⟨S, hS⟩ : ∃ S : Nat → Nat, S = fun k => (ps.take k).flatten.length := ⟨_, rfl⟩
  have HS0 : Hid (S 0 = 0) := Lib.hid (by rw [hS]; simp)
  have HSN : Hid (∀ k, k < ps.length → S (k + 1) = S k + (ps.getD k []).length) := Lib.hid (fun k hk => by rw [hS]; exact (Sha.flat_next ps k hk).symm)
  have HSL : Hid (∀ k, S k ≤ 1099511627776) := Lib.hid (fun k => by rw [hS]; exact Nat.le_trans (Sha.flat_le ps k) hl)
  have HSE : Hid (S ps.length = ps.flatten.length) := Lib.hid (by rw [hS]; simp only [List.take_length])
  have HFE : Hid (∀ k, k < ps.length → (ps.take (k + 1)).flatten = (ps.take k).flatten ++ ps.getD k []) := Lib.hid (fun k hk => (Sha.flat_next' ps k hk).symm)
  clear hS
  go_enter Tryd.func17, Tryd.ntmps17
  go_wp2_with fail
  go_loopw [3, 11] (fun s i wr => ∃ k : Nat, k ≤ ps.length ∧ i = .int .i64 k ∧ s = .int .i64 (S k : Int) ∧ Fr0 w wr) (fun _ i _ => ps.length - (intOf i).toNat)
  case atStart => exact ⟨0, Nat.zero_le _, rfl, by rw [HS0.out]; rfl, Fr.refl _ _⟩
  case round =>
    obtain ⟨k, hk, rfl, rfl, hF⟩ := hrel
    have HF := Lib.hid hF
    clear hF
    have hsk := HSL.out k
    by_cases hlt : k < ps.length
    · obtain ⟨pv, hpv, hB⟩ := HP.out k hlt
      obtain ⟨sa, sc, hsv⟩ := hB.form
      subst hsv
      obtain rfl := HA.out (by omega)
      have cq : wr.cell? ⟨qb, qo + k, none⟩ = some (.slice sa (ps.getD k []).length sc) := (HF.out.cell (p := ⟨qb, qo + k, none⟩) (World.block_lt_of_cell? w _ hpv) (fun f => f)).trans hpv
      have hsn := HSN.out k hlt
      have hsk1 := HSL.out (k + 1)
      have HSN1 : Hid (((S k : Nat) : Int) + ((ps.getD k []).length : Int) = ((S (k + 1) : Nat) : Int)) := Lib.hid (by omega)
      have hln : (ps.getD k []).length ≤ 1099511627776 := by omega
      clear hB hpv hsn
      generalize (ps.getD k []).length = L at *
      go_wp2
      go_roundw
      case rel => exact ⟨k + 1, by omega, by go_num, by rw [← HSN1.out], HF.out⟩
      case measure => simp only [intOf]; omega
    · have hkl : k = ps.length := by omega
      have HSK : Hid (S k = ps.flatten.length) := Lib.hid (by rw [hkl]; exact HSE.out)
      clear hkl
      go_wp2_with fail
      refine (grow_any (S k) hsk wr).mono ?_
      rintro e w2 ⟨v2, rfl, hO2, hF2⟩
      have HO2 : Hid (w2.ownsRow w.heap.size 5 1 v2 0 (bvals [])) := Lib.hid (ownsBase hO2 HF.out.size)
      have HF2 : Hid (Fr0 w w2) := Lib.hid (HF.out.trans' hF2)
      clear hO2 hF2 HF
      go_wp2_with fail
      go_loopw [6, 27] (fun v i wr => ∃ k : Nat, k ≤ ps.length ∧ i = .int .i64 k ∧ Hid (wr.ownsRow w.heap.size 5 1 v (S k) (bvals (ps.take k).flatten)) ∧ Hid (Fr0 w wr)) (fun _ i _ => ps.length - (intOf i).toNat)
      case atStart => exact ⟨0, Nat.zero_le _, rfl, by rw [HS0.out]; exact HO2, HF2⟩
      case round =>
        clear HO2 HF2
        obtain ⟨k2, hk2, rfl, HO, HF⟩ := hrel
        by_cases hlt2 : k2 < ps.length
        · obtain ⟨pv, hpv, hB⟩ := HP.out k2 hlt2
          obtain ⟨sa, sc, hsv⟩ := hB.form
          subst hsv
          obtain rfl := HA.out (by omega)
          have cq : wr.cell? ⟨qb, qo + k2, none⟩ = some (.slice sa (ps.getD k2 []).length sc) := (HF.out.cell (p := ⟨qb, qo + k2, none⟩) (World.block_lt_of_cell? w _ hpv) (fun f => f)).trans hpv
          have HB := Lib.hid (hB.fr0 HF.out)
          have HSN1 := Lib.hid (HSN.out k2 hlt2)
          have HSL1 := Lib.hid (HSL.out (k2 + 1))
          have HFE1 := Lib.hid (HFE.out k2 hlt2)
          clear hB hpv
          generalize ps.getD k2 [] = p at *
          go_wp2_with (refine wpList_append_bytes rfl (.tmp 31) (.tmp 32) 23 rfl w.heap.size 5 Tryd.underlying23 info8 _ _ (S k2) (ps.take k2).flatten p rfl rfl HO.out HB.out (by have := HSN1.out; have := HSL1.out; omega) HF.out.size ?_)
          intro v3 w3 hO3 hG3
          have HO3 : Hid (w3.ownsRow w.heap.size 5 1 v3 (S (k2 + 1)) (bvals (ps.take (k2 + 1)).flatten)) := Lib.hid (by rw [HFE1.out, HSN1.out]; exact hO3)
          have HF3 : Hid (Fr0 w w3) := Lib.hid (HF.out.grown hG3 (fun q hq e => by have := HO.out.lt q e; omega))
          clear hO3 hG3
          go_wp2
          go_roundw
          case rel => exact ⟨k2 + 1, by omega, by go_num, HO3, HF3⟩
          case measure => simp only [intOf]; omega
        · have hkl : k2 = ps.length := by omega
          have HOE : Hid (wr.ownsRow w.heap.size 5 1 u6 ps.flatten.length (bvals ps.flatten)) := Lib.hid (by have h := HO.out; rw [hkl, HSE.out, List.take_length] at h; exact h)
          clear hkl
          go_wp2
          go_ret
          exact ⟨_, rfl, HOE.out, HF.out⟩
set_option maxHeartbeats 2000000 in
theorem pid_any (v : Value) (b : List UInt8) (hb : b.length ≤ 140737488355328) (w : World) (hB : BytesIs w v b) :
    Calls Tryd.prog 11 #[v] w (IdPost b w) := by
  have HB := Lib.hid hB
  obtain ⟨a, c, rfl⟩ := hB.form
  have hcap : b.length ≤ c := by obtain ⟨_, _, _, _, he, h1, _⟩ := hB; simp only [Value.slice.injEq] at he; rw [he.2.2]; exact h1
  clear hB
  by_cases h34 : (b.length : Int) < 34
  · have HO : Hid (idOut b = 0 ∧ idOk b = false) := Lib.hid ⟨by unfold idOut; rw [if_pos (by omega)], decide_eq_false (by omega)⟩
    go_enter Tryd.func11, Tryd.ntmps11
    go_wp2
    go_ret2
    exact ⟨by rw [HO.out.1, HO.out.2]; rfl, Fr.refl _ _⟩
  · have hs1 := fun wx : World => cut_hi_at (P := Tryd.prog) 23 5 Tryd.underlying23 (by kernel_rfl) a b.length c 2 (by omega) wx
    have HB2 := Lib.hid (BytesIs.takeHi (n := 2) (by omega) HB.out)
    have hl2 : (b.take 2).length = 2 := by rw [List.length_take]; omega
    have HL2 := Lib.hid hl2
    have HC2 : Hid (cutOut 2 (b.take 2) = b.take 2) := Lib.hid (by unfold cutOut; rw [if_neg (by omega), List.take_of_length_le (by omega)])
    have hx : num (b.take 2) < 65536 := num_lt_le (k := 2) (by omega)
    have HO : Hid (idOut b = num (b.take 2) ∧ idOk b = true) := Lib.hid ⟨by unfold idOut; rw [if_neg (by omega)], decide_eq_true (by omega)⟩
    clear hl2
    generalize b.take 2 = X at *
    go_enter Tryd.func11, Tryd.ntmps11
    go_wp2_with fail
    refine (new_any (.slice a 2 c) X (by rw [HL2.out]; decide) w HB2.out).mono ?_
    rintro e w1 ⟨g, rfl, hg, hR1, hF1⟩
    have HR1 := Lib.hid hR1
    have HF1 := Lib.hid hF1
    have HG1 := Lib.hid hg
    clear hR1 hF1 hg
    go_wp2_with fail
    refine (ru16_any g X 0 w1 (by rw [HL2.out]; decide) HR1.out).mono ?_
    rintro e w2 ⟨rfl, _, hF2⟩
    have HF2 : Hid (Fr0 w w2) := Lib.hid (HF1.out.trans hF2 (fun i hi e => by have e' : i = g := e; have := HG1.out; omega))
    clear hF2
    rw [HC2.out]
    generalize num X = n at *
    go_wp2
    go_ret2
    exact ⟨by rw [HO.out.1, HO.out.2]; rfl, HF2.out⟩
theorem PartsIs.three (w : World) (v0 v1 v2 : Value) (l0 l1 l2 : List UInt8) (h0 : BytesIs w v0 l0) (h1 : BytesIs w v1 l1) (h2 : BytesIs w v2 l2) (t : TypeId) (N : Nat) (hN : N = w.heap.size) : PartsIs (w.alloc (.cells #[v0, v1, v2] t)) (.slice (some ⟨N, 0, none⟩) 3 3) [l0, l1, l2] := by
  subst hN
  refine ⟨_, 3, w.heap.size, 0, rfl, by simp, by simp, fun _ => rfl, fun i hi => ?_⟩
  match i, hi with
  | 0, _ => exact ⟨v0, by rw [cell_of_row _ _ _ _ _ _ (heap_alloc_new w _)]; rfl, h0.fr0 ((Fr.refl _ _).alloc _)⟩
  | 1, _ => exact ⟨v1, by rw [cell_of_row _ _ _ _ _ _ (heap_alloc_new w _)]; rfl, h1.fr0 ((Fr.refl _ _).alloc _)⟩
  | 2, _ => exact ⟨v2, by rw [cell_of_row _ _ _ _ _ _ (heap_alloc_new w _)]; rfl, h2.fr0 ((Fr.refl _ _).alloc _)⟩
set_option maxRecDepth 100000 in
set_option maxHeartbeats 1000000 in
theorem pseal_any (v0 v1 : Value) (id : Int) (k b : List UInt8) (hid : -9223372036854775808 ≤ id ∧ id ≤ 9223372036854775807) (hk : k.length ≤ 1000000) (hb : b.length ≤ 900000) (w : World) (hK : BytesIs w v0 k) (hB : BytesIs w v1 b) (hR : Sha.Rounds w) (hg : 0 < w.heap.size) :
    Calls Tryd.prog 9 #[.int .i64 id, v0, v1] w (SealPost id k b w) := by
  have HK := Lib.hid hK
  have HB := Lib.hid hB
  have HR := Lib.hid hR
  obtain ⟨ka, kc, rfl⟩ := hK.form
  obtain ⟨ba, bc, rfl⟩ := hB.form
  clear hK hB hR
  by_cases h0 : id < 0
  · have HS := Lib.hid (seal_no (.inl h0) k b)
    go_enter Tryd.func9, Tryd.ntmps9
    go_wp2
    go_ret2
    exact ⟨_, by rw [HS.out.2]; rfl, by rw [HS.out.1]; exact World.ownsRow_nil _ _ _ _, Fr.refl _ _⟩
  · by_cases h1 : 65535 < id
    · have HS := Lib.hid (seal_no (.inr h1) k b)
      go_enter Tryd.func9, Tryd.ntmps9
      go_wp2
      go_ret2
      exact ⟨_, by rw [HS.out.2]; rfl, by rw [HS.out.1]; exact World.ownsRow_nil _ _ _ _, Fr.refl _ _⟩
    · obtain ⟨n, rfl⟩ := Int.eq_ofNat_of_zero_le (show 0 ≤ id by omega)
      have HS := Lib.hid (seal_ok (n := n) (by omega) k b)
      have hu := u16_any (.slice none 0 0) [] n (by omega) (by simp) w (BytesIs.nil w)
      rw [List.nil_append] at hu
      have HEV : Hid (env n k b = [be 2 n, Mac.hmac k [be 2 n, b].flatten, b].flatten) := Lib.hid (by unfold env; simp)
      have HBL := Lib.hid (be_length 2 n)
      obtain ⟨X, hX⟩ : ∃ X, X = be 2 n := ⟨_, rfl⟩
      rw [← hX] at hu HEV HBL
      clear hX
      have hz2 := (zero_of_info (P := Tryd.prog) Sha.zero24).1
      generalize hZD : (Array.replicate 32 (Value.int .u8 0)) = ZD at hz2
      have HZD : Hid (ZD.size = 32) := Lib.hid (by rw [← hZD]; simp)
      clear hZD
      go_enter Tryd.func9, Tryd.ntmps9
      go_wp2_with fail
      refine hu.mono ?_
      clear hu
      rintro e w1 ⟨v1, rfl, hX1, hF1⟩
      have HX1 := Lib.hid hX1
      have HF1 := Lib.hid hF1
      obtain ⟨A1, C1, rfl⟩ := hX1.form
      have HP2 := Lib.hid (PartsIs.two w1 (.slice A1 X.length C1) (.slice ba b.length bc) X b hX1 (HB.out.fr0 hF1) 23 _ rfl)
      clear hX1 hF1
      go_wp2_with fail
      refine (Mac.macOf_any (.slice ka k.length kc) _ k [X, b] (by omega) (by simp) (by simp [HBL.out]; omega) _ ((HK.out.fr0 HF1.out).fr0 ((Fr.refl _ _).alloc _)) HP2.out (HR.out.fr (S := fun _ => False) (HF1.out.alloc _) (fun f => f)) (by have := HF1.out.size; simp; try omega)).mono ?_
      rintro e w2 ⟨rfl, hF2⟩
      have HF2 : Hid (Fr0 w1 w2) := Lib.hid (((Fr.refl _ _).alloc _).trans' hF2)
      have hml := Mac.hmac_len k [X, b].flatten
      generalize Mac.hmac k [X, b].flatten = H at *
      have HML := Lib.hid hml
      have HRI : Hid ((Tryd.prog.info? 38).map (·.size) = some (bvals H).toArray.size) := Lib.hid (by rw [show (bvals H).toArray.size = 32 by simp [bvals_length, hml]]; kernel_rfl)
      have HRS : Hid (ZD.size = (bvals H).toArray.size) := Lib.hid (by rw [HZD.out]; simp [bvals_length, hml])
      have HR1 : Hid ((bvals H).toArray.all (·.oneCell') = true) := Lib.hid (Mac.barr_one _)
      obtain ⟨R, hRE⟩ : ∃ R, R = (bvals H).toArray := ⟨_, rfl⟩
      rw [← hRE] at HRI HRS HR1 ⊢
      have HRE := Lib.hid hRE
      clear hRE hF2 HP2 hml
      go_wp2_with (refine wpList_store_new rfl 38 _ _ rfl w2.heap.size rfl R rfl rfl 38 _ HRI.out HRS.out HR1.out ?_)
      have HF3 : Hid (Fr0 w1 (w2.alloc (.cells R 38))) := Lib.hid (HF2.out.alloc _)
      have HY : Hid (BytesIs (w2.alloc (.cells R 38)) (.slice (some ⟨w2.heap.size, 0, none⟩) 32 32) H) := Lib.hid (BytesIs.block (t := 38) (fr := (0, 0)) (by rw [← HRE.out]; exact heap_alloc_new w2 _) 32 32 HML.out.symm (Nat.le_refl _))
      have HGE : Hid (w1.heap.size ≤ w2.heap.size) := Lib.hid HF2.out.size
      have HSZ : Hid (w2.heap.size + 1 = (w2.alloc (.cells R 38)).heap.size) := Lib.hid (World.size_alloc _ _).symm
      generalize hw3 : w2.alloc (.cells R 38) = w3 at *
      clear hw3 HF2
      have HP3 := Lib.hid (PartsIs.three w3 (.slice A1 X.length C1) (.slice (some ⟨w2.heap.size, 0, none⟩) 32 32) (.slice ba b.length bc) X H b (HX1.out.fr0 HF3.out) HY.out ((HB.out.fr0 HF1.out).fr0 HF3.out) 23 _ HSZ.out)
      have HFL : Hid ([X, H, b].flatten.length = 34 + b.length) := Lib.hid (by simp [HBL.out, HML.out]; omega)
      go_wp2_with fail
      refine (concat_any _ [X, H, b] (by rw [HFL.out]; omega) _ HP3.out).mono ?_
      rintro e w4 ⟨v4, rfl, hO4, hF4⟩
      have HF4 : Hid (Fr0 w w4) := Lib.hid ((HF1.out.trans' (HF3.out.alloc _)).trans' hF4)
      have HO4 : Hid (w4.ownsRow w.heap.size 5 1 v4 [X, H, b].flatten.length (bvals [X, H, b].flatten)) := Lib.hid (ownsBase hO4 (HF1.out.trans' (HF3.out.alloc _)).size)
      clear hO4 hF4
      go_wp2
      go_ret2
      exact ⟨_, by rw [HS.out.2]; rfl, by rw [HS.out.1, HEV.out]; exact HO4.out, HF4.out⟩
/-- opened just if the sum is that of what stands there -/
theorem env_iff (b k : List UInt8) (h : 34 ≤ b.length) : env (num (b.take 2)) k (b.drop 34) = b ↔ Mac.hmac k [b.take 2, b.drop 34].flatten = (b.drop 2).take 32 := by
  have hb2 : be 2 (num (b.take 2)) = b.take 2 := be_of_num _ 2 (by rw [List.length_take]; omega)
  have hs : b = b.take 2 ++ ((b.drop 2).take 32 ++ b.drop 34) := by
    have h1 : b.drop 34 = (b.drop 2).drop 32 := by rw [List.drop_drop]
    rw [h1, List.take_append_drop, List.take_append_drop]
  have hf : [b.take 2, b.drop 34].flatten = b.take 2 ++ b.drop 34 := by simp
  unfold env
  rw [hb2, hf]
  constructor
  · intro hh
    have h2 := hh.trans hs
    have h3 := List.append_cancel_left h2
    exact List.append_cancel_right h3
  · intro hh
    rw [hh]
    exact hs.symm
set_option maxRecDepth 100000 in
set_option maxHeartbeats 1000000 in
theorem popen_any (v0 v1 : Value) (b k : List UInt8) (id : Int) (hid : -9223372036854775808 ≤ id ∧ id ≤ 9223372036854775807) (hk : k.length ≤ 1000000) (hb : b.length ≤ 900000) (w : World) (hB : BytesIs w v0 b) (hK : BytesIs w v1 k) (hR : Sha.Rounds w) (hg : 0 < w.heap.size) :
    Calls Tryd.prog 10 #[v0, .int .i64 id, v1] w (OpenPost b id k w) := by
  have hI := pid_any v0 b (by omega) w hB
  unfold IdPost at hI
  have HK := Lib.hid hK
  have HB := Lib.hid hB
  have HR := Lib.hid hR
  obtain ⟨ka, kc, rfl⟩ := hK.form
  obtain ⟨ba, bc, rfl⟩ := hB.form
  have hcap : b.length ≤ bc := by obtain ⟨_, _, _, _, he, h1, _⟩ := hB; simp only [Value.slice.injEq] at he; rw [he.2.2]; exact h1
  clear hK hB hR
  by_cases h34 : b.length < 34
  · have hz : idOk b = false := decide_eq_false (by omega)
    rw [hz] at hI
    have HE : Hid (openErr b id k = 2) := Lib.hid (by unfold openErr; rw [if_pos h34])
    go_enter Tryd.func10, Tryd.ntmps10
    go_wp2_with fail
    refine hI.mono ?_
    clear hI
    rintro e w1 ⟨rfl, hF1⟩
    have HF1 := Lib.hid hF1
    clear hF1
    go_wp2
    go_ret2
    exact ⟨_, by rw [HE.out]; rfl, by rw [openOut_no (by rw [HE.out]; decide)]; exact BytesIs.nil _, young_nil _, HF1.out⟩
  · have hz : idOk b = true := decide_eq_true (by omega)
    obtain ⟨n, hn⟩ : ∃ n, n = num (b.take 2) := ⟨_, rfl⟩
    have hn65 : n < 65536 := by rw [hn]; exact num_lt_le (k := 2) (by rw [List.length_take]; omega)
    have hio : idOut b = n := by unfold idOut; rw [if_neg h34, hn]
    rw [hz, hio] at hI
    have HE : Hid (openErr b id k = if (n : Int) = id ∧ Mac.hmac k [b.take 2, b.drop 34].flatten = (b.drop 2).take 32 then 0 else 5) := Lib.hid (by unfold openErr; rw [if_neg h34, ← hn]; simp only [hn, env_iff b k (by omega)])
    clear hn hz hio
    by_cases hnid : (n : Int) = id
    · have z1 : ((n : Int) != id) = false := by rw [hnid]; exact bne_self_eq_false _
      obtain ⟨a2, c2, hb2, hs2, _⟩ := cutLoAt (P := Tryd.prog) 23 5 Tryd.underlying23 (by kernel_rfl) HB.out 34 (by omega) 34 rfl
      have HB2 := Lib.hid hb2
      have hs1 := fun wx : World => cut_hi_at (P := Tryd.prog) 23 5 Tryd.underlying23 (by kernel_rfl) ba b.length bc 2 (by omega) wx
      have HB1 := Lib.hid (BytesIs.takeHi (n := 2) (by omega) HB.out)
      obtain ⟨a3, hs3, hb3, _⟩ := cut_bytes (P := Tryd.prog) 23 5 Tryd.underlying23 (by kernel_rfl) HB.out 2 34 (by omega) (by omega) 2 34 rfl rfl
      have HB3 : Hid (BytesIs w (.slice a3 32 (bc - 2)) ((b.drop 2).take 32)) := Lib.hid hb3
      have HL1 : Hid ((b.take 2).length = 2) := Lib.hid (by rw [List.length_take]; omega)
      have HL2 : Hid ((b.drop 34).length = b.length - 34) := Lib.hid (by rw [List.length_drop])
      have HL3 : Hid (((b.drop 2).take 32).length = 32) := Lib.hid (by rw [List.length_take, List.length_drop]; omega)
      have HDR : Hid (∀ h, openErr b id k = 0 → h = b.drop 34 → openOut b id k = h) := Lib.hid (fun h h1 h2 => by unfold openOut; rw [if_pos h1, h2])
      obtain ⟨Y, hY⟩ : ∃ Y, Y = b.drop 34 := ⟨_, rfl⟩
      rw [← hY] at HE HB2 HL2 HDR
      clear hY
      clear hb2 hb3
      generalize b.take 2 = X at *
      generalize (b.drop 2).take 32 = T at *
      have HNI := Lib.hid hnid
      clear hnid
      have hz2 := (zero_of_info (P := Tryd.prog) Sha.zero24).1
      generalize hZD : (Array.replicate 32 (Value.int .u8 0)) = ZD at hz2
      have HZD : Hid (ZD.size = 32) := Lib.hid (by rw [← hZD]; simp)
      clear hZD
      go_enter Tryd.func10, Tryd.ntmps10
      go_wp2_with fail
      refine hI.mono ?_
      clear hI
      rintro e w1 ⟨rfl, hF1⟩
      have HF1 := Lib.hid hF1
      have HP2 := Lib.hid (PartsIs.two w1 (.slice ba 2 bc) (.slice a2 (b.length - 34) c2) X Y (HB1.out.fr0 hF1) (HB2.out.fr0 hF1) 23 _ rfl)
      clear hF1
      go_wp2_with fail
      refine (Mac.macOf_any (.slice ka k.length kc) _ k [X, Y] (by omega) (by simp) (by simp [HL1.out, HL2.out]; omega) _ ((HK.out.fr0 HF1.out).fr0 ((Fr.refl _ _).alloc _)) HP2.out (HR.out.fr (S := fun _ => False) (HF1.out.alloc _) (fun f => f)) (by have := HF1.out.size; simp; try omega)).mono ?_
      rintro e w2 ⟨rfl, hF2⟩
      have HF2 : Hid (Fr0 w w2) := Lib.hid ((HF1.out.alloc _).trans' hF2)
      have hml := Mac.hmac_len k [X, Y].flatten
      generalize Mac.hmac k [X, Y].flatten = H at *
      have HML := Lib.hid hml
      have HRI : Hid ((Tryd.prog.info? 38).map (·.size) = some (bvals H).toArray.size) := Lib.hid (by rw [show (bvals H).toArray.size = 32 by simp [bvals_length, hml]]; kernel_rfl)
      have HRS : Hid (ZD.size = (bvals H).toArray.size) := Lib.hid (by rw [HZD.out]; simp [bvals_length, hml])
      have HR1 : Hid ((bvals H).toArray.all (·.oneCell') = true) := Lib.hid (Mac.barr_one _)
      obtain ⟨R, hRE⟩ : ∃ R, R = (bvals H).toArray := ⟨_, rfl⟩
      rw [← hRE] at HRI HRS HR1 ⊢
      have HRE := Lib.hid hRE
      clear hRE hF2 HP2 hml HF1
      go_wp2_with (refine wpList_store_new rfl 38 _ _ rfl w2.heap.size rfl R rfl rfl 38 _ HRI.out HRS.out HR1.out ?_)
      have HF3 : Hid (Fr0 w (w2.alloc (.cells R 38))) := Lib.hid (HF2.out.alloc _)
      have HY : Hid (BytesIs (w2.alloc (.cells R 38)) (.slice (some ⟨w2.heap.size, 0, none⟩) 32 32) H) := Lib.hid (BytesIs.block (t := 38) (fr := (0, 0)) (by rw [← HRE.out]; exact heap_alloc_new w2 _) 32 32 HML.out.symm (Nat.le_refl _))
      generalize hw3 : w2.alloc (.cells R 38) = w3 at *
      clear hw3 HF2
      have HTT := Lib.hid (HB3.out.fr0 HF3.out)
      generalize w2.heap.size = g at *
      clear HRI HRS HR1 HRE HB3
      go_region_with ((go_at_call 18; refine (Mac.same_any _ _ H T (by rw [HML.out]; decide) (by rw [HL3.out]; decide) _ (HY.out.fr0 ((Fr.refl _ _).drew)) (HTT.out.fr0 ((Fr.refl _ _).drew))).mono ?_; rintro e w4 ⟨rfl, hF4⟩))
      all_goals
        have HF4 : Hid (Fr0 w w4) := Lib.hid (HF3.out.trans' (Fr.trans' (Fr.drew (Fr.refl _ _)) hF4))
        clear hF4
        by_cases hHT : H = T
        · have z2 : decide (H = T) = true := decide_eq_true hHT
          have HEE : Hid (openErr b id k = 0) := Lib.hid (by rw [HE.out, if_pos ⟨HNI.out, hHT⟩])
          rw [z2]
          clear hHT
          go_wp2_with fail
          refine (clone_new (.slice a2 (b.length - 34) c2) Y (by rw [HL2.out]; omega) w4 (HB2.out.fr0 HF4.out)).mono ?_
          rintro e w5 ⟨v5, rfl, hB5, hF5, hY5⟩
          have HB5 := Lib.hid hB5
          have HF5 : Hid (Fr0 w w5) := Lib.hid (HF4.out.trans' hF5)
          have HY5 : Hid (Young w v5) := Lib.hid (fun a n c h => Nat.le_trans HF4.out.size (hY5 a n c h))
          clear hB5 hF5 hY5
          go_wp2
          go_ret2
          exact ⟨_, by rw [HEE.out]; rfl, by rw [HDR.out Y HEE.out rfl]; exact HB5.out, HY5.out, HF5.out⟩
        · have z2 : decide (H = T) = false := decide_eq_false hHT
          have HEE : Hid (openErr b id k = 5) := Lib.hid (by rw [HE.out, if_neg (fun h => hHT h.2)])
          rw [z2]
          clear hHT
          go_wp2
          go_ret2
          exact ⟨_, by rw [HEE.out]; rfl, by rw [openOut_no (by rw [HEE.out]; decide)]; exact BytesIs.nil _, young_nil _, HF4.out⟩
    · have HEE : Hid (openErr b id k = 5) := Lib.hid (by rw [HE.out, if_neg (fun h => hnid h.1)])
      have z1 : ((n : Int) != id) = true := bne_iff_ne.2 hnid
      clear hnid HE
      go_enter Tryd.func10, Tryd.ntmps10
      go_wp2_with fail
      refine hI.mono ?_
      clear hI
      rintro e w1 ⟨rfl, hF1⟩
      have HF1 := Lib.hid hF1
      clear hF1
      go_wp2
      go_ret2
      exact ⟨_, by rw [HEE.out]; rfl, by rw [openOut_no (by rw [HEE.out]; decide)]; exact BytesIs.nil _, young_nil _, HF1.out⟩
end Go.Proofs.YteafnknghnhlgaaDoor.Token
