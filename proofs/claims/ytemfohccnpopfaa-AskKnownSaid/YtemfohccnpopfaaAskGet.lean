/-
  The program's getTwo, getSamples.
-/
import Derived.Test.YtemfohccnpopfaaAskGetM
import Derived.Test.YtemfohccnpopfaaAskPut
namespace Go.Proofs.Ytemfohccnpopfaa.Ask
open Go.RowKit Base Pack

set_option maxHeartbeats 1000000 in
theorem getTwo_any (B g : Nat) (l : List UInt8) (er : Int) (w : World) (hl : l.length ≤ 9223372036854775807) (hR : RdP B w g l er) :
    Calls Try.prog 28 #[.pointer (some ⟨g, 0, none⟩)] w fun e w' => e = .returned (.tuple #[.int .i64 (un (num (cutOut 8 l))), .int .i64 (un (num (cutOut 8 (cutRest 8 l))))]) ∧ RdP B w' g (cutRest 8 (cutRest 8 l)) (cutErr 8 (cutRest 8 l) (cutErr 8 l er)) ∧ Fr1 g w w' := by
  have HR := Lib.hid hR
  have hx := cutOut_num 8 l
  have hy := cutOut_num 8 (cutRest 8 l)
  have hrl : (cutRest 8 l).length ≤ 9223372036854775807 := by unfold cutRest; split <;> simp <;> omega
  have h1 := ru64_old B g l er w hl hR
  have h2 := fun w' h => ru64_old B g (cutRest 8 l) (cutErr 8 l er) w' hrl h
  have cx := fun w => conv_un _ hx w
  have cy := fun w => conv_un _ hy w
  obtain ⟨X, hX⟩ : ∃ X, X = num (cutOut 8 l) := ⟨_, rfl⟩
  obtain ⟨Y, hY⟩ : ∃ Y, Y = num (cutOut 8 (cutRest 8 l)) := ⟨_, rfl⟩
  rw [← hX] at h1 cx ⊢
  rw [← hY] at cy ⊢
  simp only [← hY] at h2
  have H2 := Lib.hid h2
  obtain ⟨UX, hUX⟩ : ∃ U, U = un X := ⟨_, rfl⟩
  obtain ⟨UY, hUY⟩ : ∃ U, U = un Y := ⟨_, rfl⟩
  simp only [← hUX] at cx ⊢
  simp only [← hUY] at cy ⊢
  clear hR hrl hl h2 hX hY hUX hUY hx hy
  go_enter Try.func28, Try.ntmps28
  go_wp2_with fail
  refine h1.mono ?_
  clear h1
  rintro e w1 ⟨rfl, hR1, hF1⟩
  have h2 := H2.out w1 hR1
  have HF1 := Lib.hid hF1
  clear hR1 hF1
  go_wp2_with fail
  refine h2.mono ?_
  clear h2
  rintro e w2 ⟨rfl, hR2, hF2⟩
  have HR2 := Lib.hid hR2
  have HF2 := Lib.hid (HF1.out.trans' hF2)
  clear hR2 hF2
  go_wp2
  go_ret2
  exact ⟨rfl, HR2.out, HF2.out⟩
theorem infoSmP : (Try.prog.info? 24).map (fun i => (i.zero, i.size, i.bytes)) = some (some (.agg #[.int .i64 0, .int .i64 0]), 2, 16) := by kernel_rfl
def SmPost (B g : Nat) (l : List UInt8) (er : Int) (w : World) (e : Ending) (w' : World) : Prop :=
  ∃ (A : Option Addr) (C : Nat) (S : List (Int × Int)) (bb : List UInt8) (ee : Int), e = .returned (.slice A S.length C) ∧ PairsIs w' (.slice A S.length C) S ∧ S.length ≤ 255 ∧ bb.length ≤ l.length ∧ After (num (cutOut 1 l)) (cutRest 1 l) (cutErr 1 l er) S bb ee ∧ (∀ q, A = some q → w.heap.size ≤ q.block) ∧ RdP B w' g bb ee ∧ Fr1 g w w'
theorem cutRest_le (n : Nat) (l : List UInt8) : (cutRest n l).length ≤ l.length := by unfold cutRest; split <;> simp
set_option maxRecDepth 100000 in
set_option maxHeartbeats 4000000 in
theorem getSamples_any (B g : Nat) (l : List UInt8) (er : Int) (w : World) (hl : l.length ≤ 140737488355328) (hB : B ≤ w.heap.size) (hR : RdP B w g l er) :
    Calls Try.prog 27 #[.pointer (some ⟨g, 0, none⟩)] w (SmPost B g l er w) := by
  have hgl := hR.rd.lt
  have h1 := ru8_old B g l er w (by omega) hR
  have hn8 := cutOut_num 1 l
  have hcl := cutRest_le 1 l
  have hn256 : num (cutOut 1 l) < 256 := hn8
  clear hn8 hR
  unfold SmPost
  generalize num (cutOut 1 l) = n at *
  generalize cutRest 1 l = l3 at *
  generalize cutErr 1 l er = e3 at *
  go_enter Try.func27, Try.ntmps27
  go_wp2_with fail
  refine h1.mono ?_
  clear h1
  rintro e w1 ⟨rfl, hR1, hF1⟩
  have HR1 := Lib.hid hR1
  have HF1 := Lib.hid hF1
  have HO1 : Hid (w1.ownsRow w.heap.size 24 2 (.slice none ([] : List (Int × Int)).length 0) ([] : List (Int × Int)).length (pcells [])) := Lib.hid (World.ownsRow_nil _ _ _ _)
  have hs1 := hF1.size
  clear hR1 hF1
  go_wp2_with fail
  go_loopg [3, 8] n (fun kx va vi wr => ∃ (i : Nat) (S : List (Int × Int)) (A : Option Addr) (C : Nat) (bb : List UInt8) (ee : Int), vi = .int .u8 (i : Int) ∧ va = .slice A i C ∧ S.length = i ∧ i ≤ n ∧ n - i ≤ kx ∧ bb.length ≤ l.length ∧ w.heap.size ≤ wr.heap.size ∧ Hid (After i l3 e3 S bb ee) ∧ Hid (RdP B wr g bb ee) ∧ Hid (wr.ownsRow w.heap.size 24 2 (.slice A i C) i (pcells S)) ∧ Hid (Fr1 g w wr))
  case atStart => exact ⟨0, [], none, 0, l3, e3, rfl, rfl, rfl, Nat.zero_le _, by omega, by omega, hs1, Lib.hid (After.zero _ _), HR1, HO1, HF1⟩
  case round =>
    clear HR1 HF1 HO1
    obtain ⟨i, S, A, C, bb, ee, rfl, rfl, hSl, hi, hk, hbl, hsz, HA, HR, HO, HF⟩ := hrel
    have HSL := Lib.hid hSl
    clear hSl
    by_cases hlt : i < n
    · have i1 : (i : Int) < (n : Int) := by omega
      have i3 : ((i : Int) + 1) % 256 = (i : Int) + 1 := by omega
      have h2 := getTwo_any B g bb ee wr (by omega) HR.out
      have HNX := Lib.hid (HA.out.next)
      have hb2 : (cutRest 8 (cutRest 8 bb)).length ≤ l.length := Nat.le_trans (cutRest_le _ _) (Nat.le_trans (cutRest_le _ _) hbl)
      generalize un (num (cutOut 8 bb)) = T at *
      generalize un (num (cutOut 8 (cutRest 8 bb))) = U at *
      generalize cutErr 8 (cutRest 8 bb) (cutErr 8 bb ee) = e2 at *
      generalize cutRest 8 (cutRest 8 bb) = b2 at *
      go_wp2_with fail
      refine h2.mono ?_
      clear h2
      rintro e w2 ⟨rfl, hR2, hF2⟩
      have HR2 := Lib.hid hR2
      have HF2 := Lib.hid (HF.out.trans' hF2)
      have HO2 := Lib.hid (ownsFr hF2 HO.out (fun q hq e => by have h1 := (HO.out.lt q hq).1; have h2 : q = g := e; omega))
      have hs2 : w.heap.size ≤ w2.heap.size := Nat.le_trans hsz hF2.size
      clear hR2 hF2
      have HPL := Lib.hid (pair_lit w2 T U 24)
      have HFL := Lib.hid ((Fr.refl (fun _ => False) w2).alloc (.cells #[.int .i64 T, .int .i64 U] 24))
      have HOL := Lib.hid (ownsFr HFL.out HO2.out (fun _ _ f => f))
      go_wp2_with (refine wpList_append_valsN rfl (.tmp 15) (.tmp 19) 25 rfl w.heap.size 24 Try.underlying25 (.agg #[.int .i64 0, .int .i64 0]) 2 16 infoSmP rfl (by decide) _ _ i 1 (pcells S) [.int .i64 T, .int .i64 U] rfl rfl HOL.out HPL.out (by decide) rfl (by intro u hu; simp at hu; rcases hu with rfl | rfl <;> rfl) (by unfold maxLen; omega) (by omega) (by have := HFL.out.size; omega) ?_)
      intro vz Wz hOz hGz hNz
      have hfz : Fr (fun j => (Value.slice A i C).ownBlock = some j) (w2.alloc (.cells #[.int .i64 T, .int .i64 U] 24)) Wz := Fr.of_grown hGz (fun k hk e => e)
      have hob : ∀ j, (Value.slice A i C).ownBlock = some j → w.heap.size ≤ j := fun j hj => (HOL.out.lt j hj).1
      have HRZ := Lib.hid ((HR2.out.fr0 HFL.out).fr hfz (fun e => by have := hob _ e; omega) (fun j hj e => by have := hob _ e; omega))
      have HFZ : Hid (Fr1 g w Wz) := Lib.hid ((HF2.out.trans' HFL.out.zero).trans hfz (fun j hj e => by have := hob _ e; omega))
      obtain ⟨Az, Cz, rfl, _⟩ := owns_form hOz
      have HOZ : Hid (Wz.ownsRow w.heap.size 24 2 (.slice Az (i + 1) Cz) (i + 1) (pcells (S ++ [(T, U)]))) := Lib.hid (by rw [pcells_append]; exact hOz)
      have hsz2 : w.heap.size ≤ Wz.heap.size := HFZ.out.size
      clear hOz hGz hNz hfz
      go_wp2
      go_roundg (n - (i + 1))
      case measure => omega
      case rel => exact ⟨i + 1, S ++ [(T, U)], Az, Cz, b2, e2, by simp, rfl, by rw [List.length_append, HSL.out]; rfl, by omega, by omega, hb2, hsz2, HNX, HRZ, HOZ, HFZ⟩
    · obtain rfl : i = n := by omega
      have HPS := Lib.hid (pairs_own HO.out HSL.out.symm)
      go_wp2
      go_ret
      exact ⟨A, C, S, bb, ee, by rw [HSL.out]; rfl, by rw [HSL.out]; exact HPS.out, by rw [HSL.out]; omega, hbl, HA.out, fun q hq => (HO.out.lt q.block (by rw [hq]; rfl)).1, HR.out, HF.out⟩
end Go.Proofs.Ytemfohccnpopfaa.Ask
