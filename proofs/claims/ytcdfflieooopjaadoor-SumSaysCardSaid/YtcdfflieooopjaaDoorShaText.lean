/-
  The walks of sum.Text, digit and sum.Parse.
-/
import Derived.Test.YtcdfflieooopjaaDoorShaEnd
import Derived.Test.YtcdfflieooopjaaDoorBytes
import Derived.Deep.AppendLies
namespace Go.Proofs.YtcdfflieooopjaaDoor.Sha
open Go.RowKit Base

def digs : List UInt8 := [48, 49, 50, 51, 52, 53, 54, 55, 56, 57, 97, 98, 99, 100, 101, 102]
def hexd (i : Nat) : UInt8 := digs.getD i 0
def hexOf (u : UInt8) : List UInt8 := [hexd (u.toNat / 16), hexd (u.toNat % 16)]
def hexText (d : List UInt8) : List UInt8 := d.flatMap hexOf
theorem hexText_length (d : List UInt8) : (hexText d).length = 2 * d.length := by
  induction d with
  | nil => rfl
  | cons u d ih => simp only [hexText, List.flatMap_cons, List.length_append, List.length_cons] at *; rw [ih]; simp [hexOf]; omega
theorem hexText_next (d : List UInt8) (k : Nat) (h : k < d.length) : hexText (d.take k) ++ hexOf (d.getD k 0) = hexText (d.take (k + 1)) := by
  have : d.take (k + 1) = d.take k ++ [d.getD k 0] := by rw [List.take_add_one]; simp [h]
  rw [this]
  simp [hexText]
theorem index_digs (x : Int) (k : IntKind) (h0 : 0 ≤ x) (h1 : x < 16) (w : World) :
    (Instr.index 9 (.string ⟨#[48, 49, 50, 51, 52, 53, 54, 55, 56, 57, 97, 98, 99, 100, 101, 102]⟩) (.int k x)).run Tryd.prog w = .ok (.int .u8 ((hexd x.toNat).toNat : Int)) w := by
  obtain ⟨n, rfl⟩ := Int.eq_ofNat_of_zero_le h0
  have hn : n < 16 := by omega
  simp [Instr.index, asIntOf, Sem.run_bind, run_underlying Tryd.underlying9 w]
  match n, hn with
  | 0, _ | 1, _ | 2, _ | 3, _ | 4, _ | 5, _ | 6, _ | 7, _ | 8, _ | 9, _ | 10, _ | 11, _ | 12, _ | 13, _ | 14, _ | 15, _ => rfl

theorem and15 (U : Nat) (h : U < 256) : bits BinOp.and .u8 (U : Int) 15 = ((U : Int) % 16) := by
  have := u8_and_nat U 15 h (by omega)
  rw [show ((15 : Nat) : Int) = 15 from rfl] at this
  rw [this, nat_mask4]
  rfl
theorem info5 : (Tryd.prog.info? 5).map (fun i => (i.zero, i.size, i.bytes)) = some (some (.int .u8 0), 1, 1) := by kernel_rfl
theorem two_cells (wr : World) (u v : Value) (t : TypeId) : ∀ j x, [u, v][j]? = some x → (wr.alloc (.cells #[u, v] t)).drew.cell? ((⟨wr.heap.size, 0, none⟩ : Addr).add j) = some x := by
  intro j x hj
  have h2 : j < 2 := (List.getElem?_eq_some_iff.1 hj).1
  have : (wr.alloc (.cells #[u, v] t)).drew.cell? ((⟨wr.heap.size, 0, none⟩ : Addr).add j) = #[u, v][j]? := by
    rw [Addr.add_mid, Nat.zero_add]
    exact cell_of_row _ _ _ _ _ _ (heap_alloc_new wr _)
  rw [this]
  simpa using hj
theorem make64 : ∀ w : World, (Instr.makeSlice 30 (.int .i64 0) (.int .i64 64)).run Tryd.prog w = .ok (.slice (some ⟨w.heap.size, 0, none⟩) 0 64) (w.alloc (.cells (Array.replicate 64 (.int .u8 0)) 5)) := fun w => by kernel_rfl

set_option maxHeartbeats 1000000 in
set_option maxRecDepth 100000 in
theorem text_any (d : List UInt8) (hd : d.length = 32) (w : World) :
    Calls Tryd.prog 20 #[.agg (bytes d).toArray] w fun e w' => e = .returned (.string ⟨(hexText d).toArray⟩) ∧ Fr0 w w' := by
  have hbs : (bytes d).toArray.size = 32 := by simp [bytes, hd]
  have hbg : ∀ i, i < 32 → (bytes d).toArray[i]? = some (.int .u8 ((d.getD i 0).toNat : Int)) := fun i hi => by rw [toArray_get]; exact bytes_get _ _ (by omega)
  generalize hD : (bytes d).toArray = D at *
  have HD := Lib.hid hD
  have HBS := Lib.hid hbs
  have HBG := Lib.hid hbg
  clear hD hbs hbg
  have hmk := make64
  have hz1 : (Array.replicate 64 (Value.int .u8 0)).size = 64 := by simp
  generalize hZ : (Array.replicate 64 (Value.int .u8 0)) = Z at *
  have HZ1 := Lib.hid hz1
  clear hZ hz1
  have hown0 : ((w.alloc (.cells D 24)).alloc (.cells Z 5)).ownsRow w.heap.size 5 1 (.slice (some ⟨w.heap.size + 1, 0, none⟩) 0 64) 0 [] :=
    ⟨rfl, .inr ⟨w.heap.size + 1, 64, Z, rfl, by omega, heap_alloc2_new w _ _, by omega, by unfold maxLen; omega, by rw [HZ1.out], by simp⟩⟩
  have HOWN0 := Lib.hid hown0
  clear hown0
  go_enter Tryd.func20, Tryd.ntmps20
  go_wp2_with (refine wpList_load_row rfl 24 _ rfl w.heap.size rfl 24 D (0, 0) _ (heap_alloc2_old w _ _) Tryd.underlying24 rfl (info24.trans (congrArg some HBS.out.symm)) ?_)
  go_loopw [3, 8] (fun v i wr => ∃ k : Nat, k ≤ 32 ∧ i = .int .i64 k ∧ wr.ownsRow w.heap.size 5 1 v (2 * k) (bytes (hexText (d.take k))) ∧ Fr0 w wr) (fun _ i _ => 32 - (intOf i).toNat)
  case atStart => exact ⟨0, by omega, rfl, HOWN0.out, ((Fr.refl _ _).alloc _).alloc _⟩
  case round =>
    clear HOWN0
    obtain ⟨k, hk, rfl, hown, hF⟩ := hrel
    have HOWN := Lib.hid hown
    have HF := Lib.hid hF
    clear hown hF
    by_cases hlt : k < 32
    · have hu := (d.getD k 0).toNat_lt
      have hix : ∀ wx : World, (Instr.index 24 (.agg D) (.int .i64 (k : Int))).run Tryd.prog wx = .ok (.int .u8 ((d.getD k 0).toNat : Int)) wx := fun wx =>
        index_arr (P := Tryd.prog) 24 5 32 _ Tryd.underlying24 (by kernel_rfl) Tryd.underlying5 rfl D k hlt _ (HBG.out k hlt) wx
      generalize hU : (d.getD k 0).toNat = U at hix hu
      have HU := Lib.hid hU
      clear hU
      have g1 : ∀ wx : World, (Instr.index 9 (.string ⟨#[48, 49, 50, 51, 52, 53, 54, 55, 56, 57, 97, 98, 99, 100, 101, 102]⟩) (.int .u8 ((U : Int) / 16))).run Tryd.prog wx = .ok (.int .u8 ((hexd (U / 16)).toNat : Int)) wx := fun wx =>
        index_digs ((U : Int) / 16) .u8 (by omega) (by omega) wx
      have g2 : ∀ wx : World, (Instr.index 9 (.string ⟨#[48, 49, 50, 51, 52, 53, 54, 55, 56, 57, 97, 98, 99, 100, 101, 102]⟩) (.int .u8 ((U : Int) % 16))).run Tryd.prog wx = .ok (.int .u8 ((hexd (U % 16)).toNat : Int)) wx := fun wx =>
        index_digs ((U : Int) % 16) .u8 (by omega) (by omega) wx
      have g3 : ∀ wx : World, (Instr.index 9 (.string ⟨#[48, 49, 50, 51, 52, 53, 54, 55, 56, 57, 97, 98, 99, 100, 101, 102]⟩) (.int .u8 (bits BinOp.and .u8 (U : Int) 15))).run Tryd.prog wx = .ok (.int .u8 ((hexd (U % 16)).toNat : Int)) wx := fun wx => by
        rw [and15 U hu]; exact index_digs ((U : Int) % 16) .u8 (by omega) (by omega) wx
      obtain ⟨e5, hi, hz0, hz1, hz2⟩ := info_parts info5
      have hnews := two_cells wr (.int .u8 ((hexd (U / 16)).toNat : Int)) (.int .u8 ((hexd (U % 16)).toNat : Int)) 5
      have hone : ∀ u ∈ [Value.int .u8 ((hexd (U / 16)).toNat : Int), .int .u8 ((hexd (U % 16)).toNat : Int)], u.oneCell' = true := by intro u hu; simp at hu; rcases hu with rfl | rfl <;> rfl
      have HN := Lib.hid hnews
      have HO := Lib.hid hone
      clear hnews hone
      have hsz := HF.out.size
      go_wp2
      go_region_law (refine step_append_lies _ rfl (.tmp 11) (.tmp 18) 30 rfl w.heap.size 5 e5 (.int .u8 0) 1 1 Tryd.underlying30 hi hz0 hz1 hz2 rfl (by decide) _ (2 * k) _ rfl (HOWN.out.alloc _).drew ⟨wr.heap.size, 0, none⟩ 2 2 _ rfl rfl HN.out HO.out (by omega) (by unfold maxLen; omega) (by omega) (by simp; omega) (wr.heap.size + 1) (by simp) ?_; intro g cap w2 hown2 hgr2 hor hlt2)
      all_goals
        go_wp2
        have hx : w2.ownsRow w.heap.size 5 1 (.slice (some ⟨g, 0, none⟩) (2 * k + 2) cap) (2 * (k + 1)) (bytes (hexText (d.take (k + 1)))) := by
          rw [← hexText_next d k (by omega)]
          have e : bytes (hexText (d.take k) ++ hexOf (d.getD k 0)) = bytes (hexText (d.take k)) ++ [.int .u8 ((hexd (U / 16)).toNat : Int), .int .u8 ((hexd (U % 16)).toNat : Int)] := by
            rw [← HU.out]; simp [bytes, hexOf]
          rw [e]; exact hown2
        have HX := Lib.hid hx
        have HF2 : Hid (Fr0 w w2) := Lib.hid (Fr.grown (Fr.drew (Fr.alloc HF.out _)) hgr2 (fun q hq e => by have := HOWN.out.lt q e; omega))
        clear hx hown2 hgr2 hor
        go_roundw
        case rel => exact ⟨k + 1, by omega, by go_num, HX.out, HF2.out⟩
        case measure => simp only [intOf]; omega
    · have hk32 : k = 32 := by omega
      have hown := HOWN.out
      rw [hk32, show d.take 32 = d from by rw [← hd]; exact List.take_length] at hown
      have hB : BytesIs wr u3 (hexText d) := BytesIs.own hown
      have hconv := hB.convert (P := Tryd.prog) 30 9 5 Tryd.underlying30 Tryd.underlying5 Tryd.underlying9
      generalize hT : hexText d = T at hconv
      have HT := Lib.hid hT
      clear hT hown hk32 hB
      go_wp2
      go_ret
      exact ⟨by rw [HT.out]; rfl, HF.out⟩
end Go.Proofs.YtcdfflieooopjaaDoor.Sha
