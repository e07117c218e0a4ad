/-
  The reference's ID, Seal, Open.
-/
import Derived.Test.YteafnknghnhlgaaDoorTokenSpec
import Derived.Test.YteafnknghnhlgaaDoorPackYoung
import Derived.Test.YteafnknghnhlgaaDoorRefMac
import Derived.Test.YteafnknghnhlgaaDoorRefUB
import Derived.Test.YteafnknghnhlgaaDoorAppend
import Derived.Test.YteafnknghnhlgaaDoorOwns
import Derived.Test.YteafnknghnhlgaaDoorCutLo
import Derived.BigQuiet
namespace Go.Proofs.YteafnknghnhlgaaDoor.Token
open Go.RowKit Base Pack

def SealPost (id : Int) (k b : List UInt8) (w : World) (e : Ending) (w' : World) : Prop := ∃ v, e = .returned (.tuple #[v, .int .i64 (sealErr id)]) ∧ w'.ownsRow w.heap.size 5 1 v (sealOut id k b).length (bvals (sealOut id k b)) ∧ Fr0 w w'
def IdPost (b : List UInt8) (w : World) (e : Ending) (w' : World) : Prop := e = .returned (.tuple #[.int .i64 (idOut b : Int), .bool (idOk b)]) ∧ Fr0 w w'
def OpenPost (b : List UInt8) (id : Int) (k : List UInt8) (w : World) (e : Ending) (w' : World) : Prop := ∃ v, e = .returned (.tuple #[v, .int .i64 (openErr b id k)]) ∧ BytesIs w' v (openOut b id k) ∧ Young w v ∧ Fr0 w w'
theorem own_ne_cells {w : World} {base : Nat} {e t : TypeId} {v : Value} {n g : Nat} {xs : List Value} {cs : Array Value} {fr : Nat × Nat} (ho : w.ownsRow base e 1 v n xs) (hg : w.heap[g]? = some (.cells cs t fr)) (hne : t ≠ e) : ¬ v.ownBlock = some g := fun h => by
  rcases ho.2 with ⟨rfl, _⟩ | ⟨b, cap, cur, rfl, _, hb, _⟩
  · cases h
  · cases h
    rw [hb] at hg
    cases hg
    exact hne rfl
set_option maxHeartbeats 2000000 in
theorem rid_any (v : Value) (b : List UInt8) (hb : b.length ≤ 140737488355328) (w : World) (hB : BytesIs w v b) :
    Calls Tryd.prog 14 #[v] w (IdPost b w) := by
  obtain ⟨a, cap, pb, po, rfl, hle, ha, hcell⟩ := hB
  by_cases h34 : (b.length : Int) < 34
  · have HO : Hid (idOut b = 0 ∧ idOk b = false) := Lib.hid ⟨by unfold idOut; rw [if_pos (by omega)], decide_eq_false (by omega)⟩
    clear hcell ha
    go_enter Tryd.func14, Tryd.ntmps14
    go_wp2
    go_ret2
    exact ⟨by rw [HO.out.1, HO.out.2]; rfl, Fr.refl _ _⟩
  · obtain rfl := ha (by omega)
    have c0 : w.cell? ⟨pb, po, none⟩ = some (.int .u8 ((b.getD 0 0).toNat : Int)) := hcell 0 (by omega)
    have c1 : w.cell? ⟨pb, po + 1, none⟩ = some (.int .u8 ((b.getD 1 0).toNat : Int)) := hcell 1 (by omega)
    have HO : Hid (idOut b = (b.getD 0 0).toNat * 256 + (b.getD 1 0).toNat ∧ idOk b = true) := Lib.hid ⟨by unfold idOut; rw [if_neg (by omega), take2 b (by omega)], decide_eq_true (by omega)⟩
    have x0 := (b.getD 0 0).toNat_lt
    have x1 := (b.getD 1 0).toNat_lt
    have l0 : (0 : Int) < (b.length : Int) := by omega
    have l1 : (1 : Int) < (b.length : Int) := by omega
    clear hcell
    generalize (b.getD 0 0).toNat = x at *
    generalize (b.getD 1 0).toNat = y at *
    have e1 : wrap64 ((x : Int) * 256) = (x : Int) * 256 := by simp only [wrap64]; omega
    have e2 : wrap64 ((x : Int) * 256 + (y : Int)) = (x : Int) * 256 + (y : Int) := by simp only [wrap64]; omega
    go_enter Tryd.func14, Tryd.ntmps14
    go_wp2
    go_quiet (fail)
    go_wp2
    go_ret2
    exact ⟨by rw [HO.out.1, HO.out.2]; simp, (Fr.refl _ _).drewN _⟩
set_option maxRecDepth 100000 in
set_option maxHeartbeats 8000000 in
theorem rseal_any (v0 v1 : Value) (id : Int) (k b : List UInt8) (hid : -9223372036854775808 ≤ id ∧ id ≤ 9223372036854775807) (hk : k.length ≤ 1000000) (hb : b.length ≤ 900000) (w : World) (hK : BytesIs w v0 k) (hB : BytesIs w v1 b) :
    Calls Tryd.prog 12 #[.int .i64 id, v0, v1] w (SealPost id k b w) := by
  have HK := Lib.hid hK
  have HB := Lib.hid hB
  obtain ⟨ka, kc, rfl⟩ := hK.form
  obtain ⟨ba, bc, rfl⟩ := hB.form
  clear hK hB
  by_cases h0 : id < 0
  · have HS := Lib.hid (seal_no (.inl h0) k b)
    go_enter Tryd.func12, Tryd.ntmps12
    go_wp2
    go_ret2
    exact ⟨_, by rw [HS.out.2]; rfl, by rw [HS.out.1]; exact World.ownsRow_nil _ _ _ _, Fr.refl _ _⟩
  · by_cases h1 : 65535 < id
    · have HS := Lib.hid (seal_no (.inr h1) k b)
      go_enter Tryd.func12, Tryd.ntmps12
      go_wp2
      go_ret2
      exact ⟨_, by rw [HS.out.2]; rfl, by rw [HS.out.1]; exact World.ownsRow_nil _ _ _ _, Fr.refl _ _⟩
    · obtain ⟨n, rfl⟩ := Int.eq_ofNat_of_zero_le (show 0 ≤ id by omega)
      have HS := Lib.hid (seal_ok (n := n) (by omega) k b)
      have hu := RefB.u_any (.slice none 0 0) [] n 2 (by omega) (by decide) (by simp) w (BytesIs.nil w)
      rw [RefB.beb_be] at hu
      have kw : (n : Int) % 18446744073709551616 = (n : Int) := by omega
      have HEV : Hid (env n k b = be 2 n ++ Mac.hmac k (be 2 n ++ b) ++ b) := Lib.hid (by unfold env; rw [List.append_assoc])
      have hbl := be_length 2 n
      obtain ⟨X, hX⟩ : ∃ X, X = be 2 n := ⟨_, rfl⟩
      rw [← hX] at hu HEV hbl
      clear hX
      go_enter Tryd.func12, Tryd.ntmps12
      go_wp2_with fail
      refine hu.mono ?_
      clear hu kw
      rintro e w1 ⟨v1, rfl, hO1, hF1⟩
      have HO1 : Hid (w1.ownsRow w.heap.size 5 1 v1 2 (bvals X)) := Lib.hid (by have h := hO1; simp only [List.nil_append, hbl] at h; exact h)
      have HF1 := Lib.hid hF1
      obtain ⟨A1, C1, rfl, _⟩ := owns_form HO1.out
      clear hO1 hF1
      go_wp2_with (refine wpList_append_bytes rfl (.tmp 21) (.tmp 22) 23 rfl w1.heap.size 5 Tryd.underlying23 Pack.info8 _ _ 0 [] X rfl rfl (owns_empty w1 w1.heap.size _ (Nat.le_refl _) _ rfl) ((BytesIs.own HO1.out).fr0 ((Fr.refl _ _).alloc _)) (by omega) ((Fr.refl (fun _ => False) _).alloc _).size ?_)
      intro v2 w2 hO2 hG2
      have HF2 : Hid (Fr0 w1 w2) := Lib.hid (((Fr.refl _ _).alloc _).grown hG2 (fun k hk e => by cases e; exact absurd hk (Nat.lt_irrefl _)))
      have HO2 : Hid (w2.ownsRow w1.heap.size 5 1 v2 2 (bvals X)) := Lib.hid hO2
      obtain ⟨A2, C2, rfl, _⟩ := owns_form HO2.out
      clear hO2 hG2
      go_wp2_with (refine wpList_append_bytes rfl (.tmp 23) (.tmp 24) 23 rfl w1.heap.size 5 Tryd.underlying23 Pack.info8 _ _ 2 X b rfl rfl HO2.out (HB.out.fr0 (HF1.out.trans' HF2.out)) (by omega) HF2.out.size ?_)
      intro v3 w3 hO3 hG3
      have HF3 : Hid (Fr0 w1 w3) := Lib.hid (HF2.out.grown hG3 (fun k hk e => by have := (HO2.out.lt k e).1; omega))
      have hmac := Mac.refMac_any (.slice ka k.length kc) v3 k (X ++ b) hk (by rw [List.length_append]; omega) w3 (HK.out.fr0 (HF1.out.trans' HF3.out)) (BytesIs.own hO3)
      obtain ⟨A3, C3, rfl, _⟩ := owns_form hO3
      clear hO3 hG3 HO2 HF2
      have hml := Mac.hmac_len k (X ++ b)
      generalize Mac.hmac k (X ++ b) = H at *
      have HRS : Hid ((bvals H).toArray.size = 32) := Lib.hid (by simp [bvals_length, hml])
      have HR1 : Hid ((bvals H).toArray.all (·.oneCell') = true) := Lib.hid (by rw [Array.all_eq_true_iff_forall_mem]; intro u hu; rw [List.mem_toArray] at hu; unfold bvals at hu; obtain ⟨c, _, rfl⟩ := List.mem_map.1 hu; rfl)
      have HRI : Hid ((Tryd.prog.info? 37).map (·.size) = some (bvals H).toArray.size) := Lib.hid (by rw [HRS.out]; kernel_rfl)
      have HCL : Hid (∀ i, i < 32 → (bvals H).toArray[i]? = some (.int .u8 ((H.getD i 0).toNat : Int))) := Lib.hid (fun i hi => by rw [List.getElem?_toArray]; exact bvals_get H i (by omega))
      obtain ⟨R, hR⟩ : ∃ R, R = (bvals H).toArray := ⟨_, rfl⟩
      rw [← hR] at hmac HRS HR1 HRI HCL
      clear hR
      obtain ⟨ZA, hZA⟩ : ∃ Z, Z = Array.replicate 32 (Value.int .u8 0) := ⟨_, rfl⟩
      have HZS : Hid (ZA.size = R.size) := Lib.hid (by rw [hZA, HRS.out]; simp)
      have HZA := Lib.hid hZA
      clear hZA
      go_wp2_with fail
      refine hmac.mono ?_
      clear hmac
      rintro e w4 ⟨rfl, hF4⟩
      have HF4 := Lib.hid (HF3.out.trans' hF4)
      clear hF4
      go_wp2_with (refine wpList_store_new rfl 37 _ _ rfl w4.heap.size rfl R rfl rfl 37 _ HRI.out (by rw [HRS.out]; rfl) HR1.out ?_)
      have HG5 : Hid ((w4.alloc (.cells R 37)).heap[w4.heap.size]? = some (.cells R 37 (0, 0))) := Lib.hid (heap_alloc_new w4 _)
      have HF5 := Lib.hid (HF4.out.alloc (.cells R 37))
      have HF15 := Lib.hid (HF1.out.trans' HF5.out)
      have HO5 : Hid ((w4.alloc (.cells R 37)).ownsRow w.heap.size 5 1 (.slice A1 2 C1) 2 (bvals (X ++ H.take 0))) := Lib.hid (by rw [List.take_zero, List.append_nil]; exact ownsFr HF5.out HO1.out (fun _ _ f => f))
      have HTK : Hid (∀ i, i < 32 → X ++ H.take (i + 1) = X ++ H.take i ++ [H.getD i 0]) := Lib.hid (fun i hi => by
        rw [List.append_assoc, List.take_succ_eq_append_getElem (by omega), List.getD_eq_getElem?_getD, List.getElem?_eq_getElem (by omega)]
        rfl)
      obtain ⟨g, hg⟩ : ∃ g, g = w4.heap.size := ⟨_, rfl⟩
      have HGE := Lib.hid hg
      generalize hw5 : w4.alloc (.cells R 37) = w5 at *
      rw [← hg] at HG5 ⊢
      have HGW : Hid (w.heap.size ≤ g) := Lib.hid (by rw [hg]; exact Nat.le_trans HF1.out.size HF4.out.size)
      clear hg hw5 HO1 HF1 HF3 HF4 HF5 HZA HZS HR1 HRI HRS HGE
      go_wp2_with fail
      go_loopg [8, 10] 32 (fun kx v8 vi wr => ∃ (i : Nat) (A : Option Addr) (C : Nat), vi = .int .i64 (i : Int) ∧ v8 = .slice A (2 + i) C ∧ i ≤ 32 ∧ 32 - i ≤ kx ∧ Hid (wr.ownsRow w.heap.size 5 1 (.slice A (2 + i) C) (2 + i) (bvals (X ++ H.take i))) ∧ Hid (wr.heap[g]? = some (.cells R 37 (0, 0))) ∧ Hid (Fr0 w wr))
      case atStart => exact ⟨0, A1, C1, rfl, rfl, Nat.zero_le _, by omega, HO5, HG5, HF15⟩
      case round =>
        clear HO5 HG5 HF15
        obtain ⟨i, A, C, rfl, rfl, hi, hk2, HO, HG, HF⟩ := hrel
        by_cases hlt : i < 32
        · have i1 : (i : Int) < 32 := by omega
          have i2 : 0 ≤ (i : Int) := by omega
          have hci : wr.cell? ⟨g, i, none⟩ = some (.int .u8 ((H.getD i 0).toNat : Int)) := by rw [cell_of_row _ _ _ _ _ _ HG.out]; exact HCL.out i hlt
          have HNX := Lib.hid (HTK.out i hlt)
          have HON : Hid (BytesIs (wr.alloc (.cells #[.int .u8 ((H.getD i 0).toNat : Int)] 5)) (.slice (some ⟨wr.heap.size, 0, none⟩) 1 1) [H.getD i 0]) := Lib.hid (BytesIs.one wr (H.getD i 0) _ rfl _ _ rfl)
          have HFL : Hid (Fr0 wr (wr.alloc (.cells #[.int .u8 ((H.getD i 0).toNat : Int)] 5))) := Lib.hid ((Fr.refl _ _).alloc _)
          have HOL := Lib.hid (ownsFr HFL.out HO.out (fun _ _ f => f))
          have HGL := Lib.hid (HFL.out.heap HG.out (fun f => f))
          generalize H.getD i 0 = x at *
          go_wp2_with (refine wpList_append_bytes rfl (.tmp 31) (.tmp 35) 23 rfl w.heap.size 5 Tryd.underlying23 Pack.info8 _ _ (2 + i) (X ++ H.take i) [x] rfl rfl HOL.out HON.out (by simp; omega) (Nat.le_trans HF.out.size HFL.out.size) ?_)
          intro v6 w6 hO6 hG6
          have HG6 : Hid (w6.heap[g]? = some (.cells R 37 (0, 0))) := Lib.hid ((Fr.of_grown (S := fun k => (Value.slice A (2 + i) C).ownBlock = some k) hG6 (fun k hk e => e)).heap HGL.out (own_ne_cells HOL.out HGL.out (by decide)))
          have HF6 : Hid (Fr0 w w6) := Lib.hid ((HF.out.trans' HFL.out).grown hG6 (fun k hk e => by have := (HOL.out.lt k e).1; omega))
          have HO6 : Hid (w6.ownsRow w.heap.size 5 1 v6 (2 + (i + 1)) (bvals (X ++ H.take (i + 1)))) := Lib.hid (by rw [HNX.out, List.append_assoc]; exact hO6)
          obtain ⟨A6, C6, rfl, _⟩ := owns_form HO6.out
          clear hO6 hG6 hci
          go_wp2
          go_roundg (32 - (i + 1))
          case measure => omega
          case rel => exact ⟨i + 1, A6, C6, by simp, rfl, by omega, by omega, HO6, HG6, HF6⟩
        · obtain rfl : i = 32 := by omega
          have htk : H.take 32 = H := List.take_of_length_le (by omega)
          have hO := HO.out
          rw [htk] at hO
          have HO := Lib.hid hO
          clear hO htk
          go_wp2_with (refine wpList_append_bytes rfl (.tmp 37) (.tmp 38) 23 rfl w.heap.size 5 Tryd.underlying23 Pack.info8 _ _ (2 + 32) (X ++ H) b rfl rfl HO.out (HB.out.fr0 HF.out) (by omega) HF.out.size ?_)
          intro v7 w7 hO7 hG7
          have HF7 : Hid (Fr0 w w7) := Lib.hid (HF.out.grown hG7 (fun k hk e => by have := (HO.out.lt k e).1; omega))
          have HO7 := Lib.hid hO7
          obtain ⟨A7, C7, rfl, _⟩ := owns_form hO7
          have HEL : Hid ((env n k b).length = 34 + b.length) := Lib.hid (env_length n k b)
          clear hO7 hG7
          go_wp2
          go_ret2
          exact ⟨_, by rw [HS.out.2]; rfl, by rw [HS.out.1, HEL.out, HEV.out, List.append_assoc]; exact HO7.out, HF7.out⟩
set_option maxRecDepth 100000 in
set_option maxHeartbeats 8000000 in
theorem ropen_any (v0 v1 : Value) (b k : List UInt8) (id : Int) (hid : -9223372036854775808 ≤ id ∧ id ≤ 9223372036854775807) (hk : k.length ≤ 1000000) (hb : b.length ≤ 900000) (w : World) (hB : BytesIs w v0 b) (hK : BytesIs w v1 k) :
    Calls Tryd.prog 13 #[v0, .int .i64 id, v1] w (OpenPost b id k w) := by
  have hI := rid_any v0 b (by omega) w hB
  unfold IdPost at hI
  have HK := Lib.hid hK
  have HB := Lib.hid hB
  obtain ⟨ka, kc, rfl⟩ := hK.form
  obtain ⟨ba, bc, rfl⟩ := hB.form
  clear hK hB
  by_cases h34 : b.length < 34
  · have hz : idOk b = false := decide_eq_false (by omega)
    rw [hz] at hI
    have HE : Hid (openErr b id k = 2) := Lib.hid (by unfold openErr; rw [if_pos h34])
    go_enter Tryd.func13, Tryd.ntmps13
    go_wp2_with fail
    refine hI.mono ?_
    clear hI
    rintro e w1 ⟨rfl, hF1⟩
    have HF1 := Lib.hid hF1
    clear hF1
    go_wp2
    go_ret2
    exact ⟨_, by rw [HE.out]; rfl, by rw [openOut_no (by rw [HE.out]; decide)]; exact BytesIs.nil _, young_nil _, HF1.out⟩
  · have hz : idOk b = true := decide_eq_true (by omega)
    obtain ⟨n, hn⟩ : ∃ n, n = num (b.take 2) := ⟨_, rfl⟩
    have hn65 : n < 65536 := by rw [hn]; exact num_lt_le (k := 2) (by rw [List.length_take]; omega)
    have hio : idOut b = n := by unfold idOut; rw [if_neg h34, hn]
    rw [hz, hio] at hI
    have HE : Hid (openErr b id k = if (n : Int) = id ∧ env n k (b.drop 34) = b then 0 else 5) := Lib.hid (by unfold openErr; rw [if_neg h34, ← hn])
    obtain ⟨a2, c2, hb2, hs2, _⟩ := cutLoAt (P := Tryd.prog) 23 5 Tryd.underlying23 (by kernel_rfl) HB.out 34 (by omega) 34 rfl
    have HB2 := Lib.hid hb2
    have hsl := fun w h1 h2 => rseal_any (.slice ka k.length kc) (.slice a2 (b.length - 34) c2) (n : Int) k (b.drop 34) (by omega) hk (by rw [List.length_drop]; omega) w h1 h2
    unfold SealPost at hsl
    rw [(seal_ok hn65 k (b.drop 34)).1, (seal_ok hn65 k (b.drop 34)).2] at hsl
    have HSL := Lib.hid hsl
    clear hn hz hio hsl hb2
    generalize env n k (b.drop 34) = E at *
    go_enter Tryd.func13, Tryd.ntmps13
    go_wp2_with fail
    refine hI.mono ?_
    clear hI
    rintro e w1 ⟨rfl, hF1⟩
    have hsl := HSL.out w1 (HK.out.fr0 hF1) (HB2.out.fr0 hF1)
    have HF1 := Lib.hid hF1
    clear hF1 HSL
    go_wp2_with fail
    refine hsl.mono ?_
    clear hsl
    rintro e w2 ⟨v2, rfl, hO2, hF2⟩
    have hX2 := BytesIs.own hO2
    have HF2 := Lib.hid (HF1.out.trans' hF2)
    obtain ⟨A2, C2, rfl⟩ := hX2.form
    have hcx := hX2.convert (P := Tryd.prog) 23 9 5 Tryd.underlying23 Tryd.underlying5 Tryd.underlying9
    have hcb := (HB.out.fr0 HF2.out).convert (P := Tryd.prog) 23 9 5 Tryd.underlying23 Tryd.underlying5 Tryd.underlying9
    clear hF2 hX2 hO2 HF1
    by_cases hnid : (n : Int) = id
    · have z1 : ((n : Int) != id) = false := by rw [hnid]; exact bne_self_eq_false _
      by_cases hEb : E = b
      · have HEB := Lib.hid hEb
        have HNI := Lib.hid hnid
        rw [hEb] at hcx
        rw [hEb]
        clear hnid hEb
        go_wp2_with (refine wpList_append_bytes rfl (.tmp 37) (.tmp 39) 23 rfl w2.heap.size 5 Tryd.underlying23 Pack.info8 _ _ 0 [] (b.drop 34) rfl rfl (owns_empty w2 w2.heap.size _ (Nat.le_refl _) _ rfl) ((HB2.out.fr0 HF2.out).fr0 ((Fr.refl _ _).alloc _)) (by rw [List.length_drop]; omega) ((Fr.refl (fun _ => False) _).alloc _).size ?_)
        intro v7 w7 hO7 hG7
        have HF7 : Hid (Fr0 w w7) := Lib.hid (HF2.out.trans' (((Fr.refl _ _).alloc _).grown hG7 (fun k hk e => by cases e; exact absurd hk (Nat.lt_irrefl _))))
        have HB7 := Lib.hid (BytesIs.own hO7)
        have hsz := HF2.out.size
        have HY7 : Hid (Young w v7) := Lib.hid (fun a n c hv => Nat.le_trans hsz (hO7.lt a.block (by rw [hv]; rfl)).1)
        obtain ⟨A7, C7, rfl, _⟩ := owns_form hO7
        have HEE : Hid (openErr b id k = 0) := Lib.hid (by rw [HE.out, if_pos ⟨HNI.out, HEB.out⟩])
        clear hO7 hG7
        go_wp2
        go_ret2
        exact ⟨_, by rw [HEE.out]; rfl, by unfold openOut; rw [if_pos HEE.out]; exact HB7.out, HY7.out, HF7.out⟩
      · have HEE : Hid (openErr b id k = 5) := Lib.hid (by rw [HE.out, if_neg (fun h => hEb h.2)])
        have z2 : (E == b) = false := beq_eq_false_iff_ne.2 hEb
        clear hnid hEb
        go_wp2
        go_ret2
        exact ⟨_, by rw [HEE.out]; rfl, by rw [openOut_no (by rw [HEE.out]; decide)]; exact BytesIs.nil _, young_nil _, HF2.out⟩
    · have HEE : Hid (openErr b id k = 5) := Lib.hid (by rw [HE.out, if_neg (fun h => hnid h.1)])
      have z1 : ((n : Int) != id) = true := bne_iff_ne.2 hnid
      clear hnid
      go_wp2
      go_ret2
      exact ⟨_, by rw [HEE.out]; rfl, by rw [openOut_no (by rw [HEE.out]; decide)]; exact BytesIs.nil _, young_nil _, HF2.out⟩
end Go.Proofs.YteafnknghnhlgaaDoor.Token
