/-
  SumKnown: what chapter 1 says of nothing, of ends of blocks, of texts: the walk.
-/
import Derived.Test.YtcbmfddhgpncoaaDoorSumWalk
import Derived.Test.YtcbmfddhgpncoaaDoorHeld
import Derived.Test.YtcbmfddhgpncoaaDoorArr
import Derived.Lib.ItoaWalk
namespace Go.Proofs.YtcbmfddhgpncoaaDoor.Sha
open Go.RowKit Base

def eText : List UInt8 := [101, 51, 98, 48, 99, 52, 52, 50, 57, 56, 102, 99, 49, 99, 49, 52, 57, 97, 102, 98, 102, 52, 99, 56, 57, 57, 54, 102, 98, 57, 50, 52, 50, 55, 97, 101, 52, 49, 101, 52, 54, 52, 57, 98, 57, 51, 52, 99, 97, 52, 57, 53, 57, 57, 49, 98, 55, 56, 53, 50, 98, 56, 53, 53]
theorem e_text : hexText (digest []) = eText := by decide +kernel
theorem e_parse : parseOk eText = true := by decide +kernel
theorem e_back : parseList eText = digest [] := by decide +kernel
def bads : List (List UInt8) := [[], [101, 51], eText ++ [48], eText.drop 1, 71 :: eText.drop 1, 69 :: eText.drop 1]
theorem bads_no : ∀ k, k < 6 → parseOk (bads.getD k []) = false := by decide +kernel
theorem bads_len : ∀ k, k < 6 → (bads.getD k []).length ≤ 65 := by decide +kernel
def eS : ByteArray := ⟨eText.toArray⟩
theorem e_eq : (eS.toList == [101, 51, 98, 48, 99, 52, 52, 50, 57, 56, 102, 99, 49, 99, 49, 52, 57, 97, 102, 98, 102, 52, 99, 56, 57, 57, 54, 102, 98, 57, 50, 52, 50, 55, 97, 101, 52, 49, 101, 52, 54, 52, 57, 98, 57, 51, 52, 99, 97, 52, 57, 53, 57, 57, 49, 98, 55, 56, 53, 50, 98, 56, 53, 53]) = true := by decide +kernel
def nist : List UInt8 := [97, 98, 99, 100, 98, 99, 100, 101, 99, 100, 101, 102, 100, 101, 102, 103, 101, 102, 103, 104, 102, 103, 104, 105, 103, 104, 105, 106, 104, 105, 106, 107, 105, 106, 107, 108, 106, 107, 108, 109, 107, 108, 109, 110, 108, 109, 110, 111, 109, 110, 111, 112, 110, 111, 112, 113]
def nistCells : Array Value := #[.int .u8 97, .int .u8 98, .int .u8 99, .int .u8 100, .int .u8 98, .int .u8 99, .int .u8 100, .int .u8 101, .int .u8 99, .int .u8 100, .int .u8 101, .int .u8 102, .int .u8 100, .int .u8 101, .int .u8 102, .int .u8 103, .int .u8 101, .int .u8 102, .int .u8 103, .int .u8 104, .int .u8 102, .int .u8 103, .int .u8 104, .int .u8 105, .int .u8 103, .int .u8 104, .int .u8 105, .int .u8 106, .int .u8 104, .int .u8 105, .int .u8 106, .int .u8 107, .int .u8 105, .int .u8 106, .int .u8 107, .int .u8 108, .int .u8 106, .int .u8 107, .int .u8 108, .int .u8 109, .int .u8 107, .int .u8 108, .int .u8 109, .int .u8 110, .int .u8 108, .int .u8 109, .int .u8 110, .int .u8 111, .int .u8 109, .int .u8 110, .int .u8 111, .int .u8 112, .int .u8 110, .int .u8 111, .int .u8 112, .int .u8 113]
def nText : List UInt8 := [50, 52, 56, 100, 54, 97, 54, 49, 100, 50, 48, 54, 51, 56, 98, 56, 101, 53, 99, 48, 50, 54, 57, 51, 48, 99, 51, 101, 54, 48, 51, 57, 97, 51, 51, 99, 101, 52, 53, 57, 54, 52, 102, 102, 50, 49, 54, 55, 102, 54, 101, 99, 101, 100, 100, 52, 49, 57, 100, 98, 48, 54, 99, 49]
def nS : ByteArray := ⟨nText.toArray⟩
theorem n_text : hexText (digest nist) = nText := by decide +kernel
theorem n_eq : (nS.toList == [50, 52, 56, 100, 54, 97, 54, 49, 100, 50, 48, 54, 51, 56, 98, 56, 101, 53, 99, 48, 50, 54, 57, 51, 48, 99, 51, 101, 54, 48, 51, 57, 97, 51, 51, 99, 101, 52, 53, 57, 54, 52, 102, 102, 50, 49, 54, 55, 102, 54, 101, 99, 101, 100, 100, 52, 49, 57, 100, 98, 48, 54, 99, 49]) = true := by decide +kernel
theorem textN (w : World) : Calls Tryd.prog 10 #[.agg (digArr [nist].flatten)] w fun e w' => e = .returned (.string nS) ∧ Fr0 w w' := by
  have := text_any (digest nist) (digest_length _) w
  rw [n_text] at this
  exact this
theorem eS_size : eS.size = 64 := by decide +kernel

theorem bads_cells : ∀ i, i < 6 → (#[Value.string ⟨#[]⟩, Value.string ⟨#[101, 51]⟩, Value.string (eS ++ ⟨#[48]⟩), Value.string (eS.extract 1 64), Value.string (⟨#[71]⟩ ++ eS.extract 1 64), Value.string (⟨#[69]⟩ ++ eS.extract 1 64)] : Array Value)[i]? = some (.string ⟨(bads.getD i []).toArray⟩) := by
  intro i hi
  have h2 : eS ++ ⟨#[48]⟩ = ⟨(bads.getD 2 []).toArray⟩ := by decide +kernel
  have h3 : eS.extract 1 64 = ⟨(bads.getD 3 []).toArray⟩ := by decide +kernel
  have h4 : (⟨#[71]⟩ : ByteArray) ++ eS.extract 1 64 = ⟨(bads.getD 4 []).toArray⟩ := by decide +kernel
  have h5 : (⟨#[69]⟩ : ByteArray) ++ eS.extract 1 64 = ⟨(bads.getD 5 []).toArray⟩ := by decide +kernel
  match i, hi with
  | 0, _ => rfl
  | 1, _ => rfl
  | 2, _ => rw [h2]; rfl
  | 3, _ => rw [h3]; rfl
  | 4, _ => rw [h4]; rfl
  | 5, _ => rw [h5]; rfl
theorem textE {E : Array Value} (h : E = (bvals (digest [])).toArray) (w : World) : Calls Tryd.prog 10 #[.agg E] w fun e w' => e = .returned (.string eS) ∧ Fr0 w w' := by
  subst h
  have := text_any (digest []) (digest_length _) w
  rw [e_text] at this
  exact this
theorem parseE {E : Array Value} (h : E = (bvals (digest [])).toArray) (w : World) : Calls Tryd.prog 9 #[.string eS] w fun e w' => e = .returned (.tuple #[.agg E, .bool true]) ∧ Fr0 w w' := by
  subst h
  have := parse_any2 eText w (by decide)
  rw [e_parse, e_back] at this
  exact this
theorem bads_zero (k : Nat) (hk : k < 6) : parseList (bads.getD k []) = zeros32 := by unfold parseList; rw [bads_no k hk]; rfl
theorem parseBad {Z : Array Value} (hZ : Z = (bvals zeros32).toArray) (k : Nat) (hk : k < 6) (s : ByteArray) (hs : s = ⟨(bads.getD k []).toArray⟩) (w : World) : Calls Tryd.prog 9 #[.string s] w fun e w' => e = .returned (.tuple #[.agg Z, .bool false]) ∧ Fr0 w w' := by
  subst hs hZ
  have := parse_any2 (bads.getD k []) w (by have := bads_len k hk; omega)
  rw [bads_no k hk, bads_zero k hk] at this
  exact this
set_option maxHeartbeats 2000000 in
set_option maxRecDepth 100000 in
theorem sumKnown_walk (w : World) (hK : Rounds w) (hg : 0 < w.heap.size) :
    Calls Tryd.prog 3 #[] w fun e w' => e = .returned (.bool true) ∧ Fr0 w w' := by
  have HK := Lib.hid hK
  clear hK
  have hzv := (zero_of_info (P := Tryd.prog) zero24').1
  have hzi := zeroDig_info
  have hz1 := zeroDig_one
  have hzs : zeroDig.size = 32 := by simp [zeroDig]
  have hzl : zeroDig = (bvals zeros32).toArray := rfl
  generalize zeroDig = Z at *
  have HZI := Lib.hid hzi
  have HZ1 := Lib.hid hz1
  have HZS := Lib.hid hzs
  have HZL := Lib.hid hzl
  clear hzi hz1 hzs hzl
  go_enter Tryd.func3, Tryd.ntmps3
  go_wp2_with fail
  refine (awake_any _ HK.out hg).mono ?_
  rintro e w1 ⟨rfl, hF1⟩
  have HF1 := Lib.hid hF1
  clear hF1
  go_wp2_with fail
  refine (of_any _ [] _ ⟨none, 0, 0, 0, rfl, by simp, by simp, fun h => absurd h (by simp), fun i hi => absurd hi (by simp)⟩ (HK.out.fr HF1.out (fun f => f)) (Nat.lt_of_lt_of_le hg HF1.out.size) (by simp)).mono ?_
  rintro e w2 ⟨rfl, hF2⟩
  have HF2 : Hid (Fr0 w w2) := Lib.hid (HF1.out.trans' hF2)
  clear hF2
  rw [show [].flatten = ([] : List UInt8) from rfl]
  have hes := digArr_size []
  have hei := digArr_info []
  have he1 := digArr_one []
  have hed : digArr [] = (bvals (digest [])).toArray := rfl
  generalize digArr [] = E at *
  have HES := Lib.hid hes
  have HEI := Lib.hid hei
  have HE1 := Lib.hid he1
  have HED := Lib.hid hed
  clear hes hei he1 hed
  have hE : (bvals (digest [])).toArray = E := HED.out.symm
  go_wp2_with (first | (refine wpList_store_new rfl 24 _ _ rfl w2.heap.size rfl E rfl rfl 24 _ HEI.out (by rw [HES.out, HZS.out]) HE1.out ?_) | (refine wpList_load_row rfl 24 _ rfl w2.heap.size rfl 24 E (0, 0) _ (heap_alloc_new w2 _) Tryd.underlying24 rfl HEI.out ?_))
  refine (textE HED.out _).mono ?_
  rintro e w3 ⟨rfl, hF3⟩
  have HF3 : Hid (Fr0 w w3) := Lib.hid (Fr.trans' (HF2.out.alloc _) hF3)
  have HB3 := Lib.hid (hF3.heap (heap_alloc_new w2 _) (fun f => f))
  clear hF3
  go_wp2_with fail
  refine (parseE HED.out _).mono ?_
  rintro e w4 ⟨rfl, hF4⟩
  have HF4 : Hid (Fr0 w w4) := Lib.hid (HF3.out.trans' hF4)
  have HB4 := Lib.hid (hF4.heap HB3.out (fun f => f))
  have hlt := lt_of_heap HB4.out
  clear hF4 HB3
  go_wp2_with (first | (refine wpList_store_new rfl 24 _ _ rfl w4.heap.size rfl E rfl rfl 24 _ HEI.out (by rw [HES.out, HZS.out]) HE1.out ?_) | (refine wpList_load_row rfl 24 _ rfl w2.heap.size rfl 24 E (0, 0) _ ((Fr.alloc (Fr.refl (fun _ => False) w4) _).heap HB4.out (fun f => f)) Tryd.underlying24 rfl HEI.out ?_))
  refine (textE HED.out _).mono ?_
  rintro e w5 ⟨rfl, hF5⟩
  have HF5 : Hid (Fr0 w w5) := Lib.hid (Fr.trans' (HF4.out.alloc _) hF5)
  have HB5 := Lib.hid (hF5.heap ((Fr.alloc (Fr.refl (fun _ => False) w4) _).heap HB4.out (fun f => f)) (fun f => f))
  have HC5 := Lib.hid (hF5.heap (heap_alloc_new w4 _) (fun f => f))
  clear hF5 HB4
  have hss := eS_size
  generalize hS : eS = S at *
  have HS := Lib.hid hS
  clear hS
  go_wp2_with fail
  go_region
  go_wp2_with fail
  go_name_world w6 hw6
  have hF56 : Fr0 w5 w6 := by rw [← hw6]; exact ((Fr.refl _ _).alloc _).drew
  have hrow : w6.rowIs w5.heap.size 9 6 (fun j => .string ⟨(bads.getD j []).toArray⟩) := by
    rw [← hw6, ← HS.out]
    exact (rowIs_new w5 _ 9 6 _ rfl bads_cells).drew
  have HF6 : Hid (Fr0 w w6) := Lib.hid (HF5.out.trans' hF56)
  have HB6 := Lib.hid (hF56.heap HB5.out (fun f => f))
  have HC6 := Lib.hid (hF56.heap HC5.out (fun f => f))
  have HROW := Lib.hid hrow
  have hEQZ : ∀ wx : World, (Op.equalIn 10000 24 (.agg Z) (.agg Z)).run Tryd.prog wx = .ok true wx := fun wx => by
    rw [HZL.out]
    have := eq_barr (P := Tryd.prog) 9998 24 5 32 Tryd.underlying24 (by kernel_rfl) Tryd.underlying5 zeros32 zeros32 (by simp [zeros32]) (by simp [zeros32]) wx
    simp only [decide_true] at this
    exact this
  have HEQZ := Lib.hid hEQZ
  clear hw6 hF56 hrow HB5 HC5 hEQZ
  go_loopw [6] (fun i wr => ∃ k : Nat, k ≤ 6 ∧ i = .int .i64 k ∧ Fr0 w6 wr) (fun i _ => 6 - (intOf i).toNat)
  case atStart => exact ⟨0, by omega, rfl, Fr.refl _ _⟩
  case round =>
    obtain ⟨k, hk, rfl, hF⟩ := hrel
    have HF := Lib.hid hF
    clear hF
    by_cases hlt6 : k < 6
    · have cst := (HF.out.row HROW.out (fun f => f)).cell (i := k) hlt6
      have hsk : (⟨(bads.getD k []).toArray⟩ : ByteArray) = ⟨(bads.getD k []).toArray⟩ := rfl
      generalize hq : (⟨(bads.getD k []).toArray⟩ : ByteArray) = sk at cst
      have HQ := Lib.hid hq
      clear hq hsk
      have hEQ := HEQZ.out
      go_wp2_with fail
      refine (parseBad HZL.out k hlt6 sk HQ.out.symm _).mono ?_
      rintro e w7 ⟨rfl, hF7⟩
      have HF7 : Hid (Fr0 w6 w7) := Lib.hid (HF.out.trans' hF7)
      clear hF7
      go_wp2_with (first | (refine wpList_store_new rfl 24 _ _ rfl w7.heap.size rfl Z rfl rfl 24 _ HZI.out rfl HZ1.out ?_) | (refine wpList_load_row_g rfl 24 _ rfl w7.heap.size rfl 24 Z (0, 0) _ (heap_alloc_new w7 _) Tryd.underlying24 rfl HZI.out ?_))
      go_roundw
      case rel => exact ⟨k + 1, by omega, by go_num, HF7.out.alloc _⟩
      case measure => simp only [intOf]; omega
    · have HFW : Hid (Fr0 w wr) := Lib.hid (HF6.out.trans' HF.out)
      have HB7 := Lib.hid (HF.out.heap HB6.out (fun f => f))
      have HC7 := Lib.hid (HF.out.heap HC6.out (fun f => f))
      have kc := fun (w : World) (C : Array Value) (n c : Nat) => Lib.run_convert_bytes_const (P := Tryd.prog) w 30 5 C n c Tryd.underlying30 Tryd.underlying5
      go_wp2_with (first | (refine wpList_load_row rfl 24 _ rfl w2.heap.size rfl 24 E (0, 0) _ HB7.out Tryd.underlying24 rfl HEI.out ?_))
      refine (textE HED.out _).mono ?_
      rintro e w8 ⟨rfl, hF8⟩
      rw [HS.out]
      have HF8 : Hid (Fr0 w w8) := Lib.hid (HFW.out.trans' hF8)
      have HB8 := Lib.hid (hF8.heap HB7.out (fun f => f))
      have HC8 := Lib.hid (hF8.heap HC7.out (fun f => f))
      have hseq := e_eq
      rw [HS.out] at hseq
      have hEQE : ∀ wx : World, (Op.equalIn 10000 24 (.agg E) (.agg E)).run Tryd.prog wx = .ok true wx := fun wx => by
        rw [HED.out]
        have := eq_barr (P := Tryd.prog) 9998 24 5 32 Tryd.underlying24 (by kernel_rfl) Tryd.underlying5 (digest []) (digest []) (digest_length _) (digest_length _) wx
        simp only [decide_true] at this
        exact this
      clear hF8
      go_wp2_with (first | (refine wpList_load_row_g rfl 24 _ rfl w4.heap.size rfl 24 E (0, 0) _ HC8.out Tryd.underlying24 rfl HEI.out ?_) | (refine wpList_load_row_g rfl 24 _ rfl w2.heap.size rfl 24 E (0, 0) _ HB8.out Tryd.underlying24 rfl HEI.out ?_))
      refine (of_any _ [nist] _ (parts_one (w8.alloc (.cells nistCells 5 (56, 57))) _ nist (bytes_marked w8 nist nistCells _ _ 56 rfl 56 (by omega) rfl _ rfl) _ _ (by simp)) (HK.out.fr (Fr.alloc (Fr.alloc HF8.out _) _) (fun f => f)) (by have := HF8.out.size; simp <;> omega) (by decide)).mono ?_
      rintro e w9 ⟨rfl, hF9⟩
      have HF9 : Hid (Fr0 w w9) := Lib.hid (Fr.trans' (Fr.alloc (Fr.alloc HF8.out _) _) hF9)
      clear hF9
      go_wp2_with fail
      refine (textN _).mono ?_
      rintro e w10 ⟨rfl, hF10⟩
      have HF10 : Hid (Fr0 w w10) := Lib.hid (HF9.out.trans' hF10)
      have hneq := n_eq
      generalize nS = N at *
      clear hF10
      go_wp2
      go_ret
      exact ⟨rfl, HF10.out⟩
end Go.Proofs.YtcbmfddhgpncoaaDoor.Sha
