/-
  The reference's Parse.
-/
import Derived.Test.YtcdfflieooopjaaDoorRefText
namespace Go.Proofs.YtcdfflieooopjaaDoor.Sha
open Go.RowKit Base

/-- a sum's byte behind k characters -/
def rcell (t : List UInt8) (k j : Nat) : Value := if 2 * j + 1 < k then .int .u8 ((16 * hv (t.getD (2 * j) 0).toNat + hv (t.getD (2 * j + 1) 0).toNat : Nat) : Int) else if 2 * j < k then .int .u8 (hv (t.getD (2 * j) 0).toNat : Int) else .int .u8 0
def rval (t : List UInt8) (k : Nat) : Nat := if k % 2 = 0 then 0 else hv (t.getD (k - 1) 0).toNat
theorem rval_lt (t : List UInt8) (k : Nat) : rval t k < 16 := by
  unfold rval
  split
  · omega
  · exact hv_lt _
theorem rcell_at (t : List UInt8) (k : Nat) : rcell t k (k / 2) = .int .u8 (rval t k : Int) := by
  unfold rcell rval
  rw [if_neg (by omega)]
  by_cases h : k % 2 = 0
  · rw [if_neg (by omega), if_pos h]; rfl
  · rw [if_pos (by omega), if_neg h, show 2 * (k / 2) = k - 1 from by omega]
theorem rcell_step (t : List UInt8) (k n : Nat) (hn : (t.getD k 0).toNat = n) : ∀ i, i < 32 → (if i = k / 2 then Value.int .u8 ((rval t k : Int) * 16 + (hv n : Int)) else rcell t k i) = rcell t (k + 1) i := by
  intro i _
  by_cases h : i = k / 2
  · subst h
    rw [if_pos rfl]
    unfold rcell rval
    by_cases h2 : k % 2 = 0
    · rw [if_pos h2, if_neg (by omega), if_pos (by omega), show 2 * (k / 2) = k from by omega, hn]
      congr 1
      omega
    · rw [if_neg h2, if_pos (by omega), show 2 * (k / 2) = k - 1 from by omega, show k - 1 + 1 = k from by omega, hn]
      congr 1
      omega
  · rw [if_neg h]
    unfold rcell
    by_cases h1 : 2 * i + 1 < k
    · rw [if_pos h1, if_pos (by omega)]
    · have h2 : ¬ 2 * i < k := by omega
      rw [if_neg h1, if_neg h2, if_neg (by omega), if_neg (by omega)]
theorem rcell_done (t : List UInt8) : ∀ i, i < 32 → rcell t 64 i = pcell t 32 i := by
  intro i hi
  unfold rcell pcell
  rw [if_pos (by omega), if_pos hi]
  have e : (parsed t).getD i 0 = UInt8.ofNat (16 * hv (t.getD (2 * i) 0).toNat + hv (t.getD (2 * i + 1) 0).toNat) := by simp [parsed, hi]
  have b0 := hv_lt (t.getD (2 * i) 0).toNat
  have b1 := hv_lt (t.getD (2 * i + 1) 0).toNat
  rw [e, UInt8.toNat_ofNat_of_lt' (by show _ < 256; omega)]
theorem parsed_info23 (t : List UInt8) : (Tryd.prog.info? 23).map (·.size) = some (parsedArr t).size := by
  rw [parsedArr_size]
  kernel_rfl
theorem zeroDig_info23 : (Tryd.prog.info? 23).map (·.size) = some zeroDig.size := by
  rw [show zeroDig.size = 32 from by simp [zeroDig]]
  kernel_rfl
theorem zero23z : (Tryd.prog.info? 23).map (fun i => (i.zero, i.size)) = some (some (.agg zeroDig), 32) := by kernel_rfl
set_option maxHeartbeats 2000000 in
set_option maxRecDepth 100000 in
theorem refParse_post (t : List UInt8) (w : World) (ht : t.length ≤ 9223372036854775807) : Calls Tryd.prog 21 #[.string ⟨t.toArray⟩] w fun e w' =>
    ParsePost t e ∧ Fr0 w w' := by
  have hz := (zero_of_info (P := Tryd.prog) zero23z).1
  have hzi := zeroDig_info23
  have hz1 := zeroDig_one
  have hzg : ∀ i, i < 32 → zeroDig[i]? = some (.int .u8 0) := fun i hi => by simp [zeroDig, hi]
  have hzs : zeroDig.size = 32 := by simp [zeroDig]
  generalize hZ : zeroDig = Z at *
  have HZ := Lib.hid hZ
  clear hZ
  have HZI := Lib.hid hzi
  have HZ1 := Lib.hid hz1
  have HZG := Lib.hid hzg
  have HZS := Lib.hid hzs
  clear hzi hz1 hzg hzs
  have HB0 : Hid (((w.alloc (.cells Z 23)).alloc (.cells Z 23)).heap[w.heap.size]? = some (.cells Z 23 (0, 0))) := Lib.hid (heap_alloc2_old w _ _)
  have HB1 : Hid (((w.alloc (.cells Z 23)).alloc (.cells Z 23)).heap[w.heap.size + 1]? = some (.cells Z 23 (0, 0))) := Lib.hid (heap_alloc2_new w _ _)
  by_cases h64 : t.length = 64
  · have hix : ∀ (i : Nat) (x : Int), i < 64 → x = (i : Int) → ∀ wx : World, (Instr.index 9 (.string ⟨t.toArray⟩) (.int .i64 x)).run Tryd.prog wx = .ok (.int .u8 ((t.getD i 0).toNat : Int)) wx := by
      intro i x hi hx wx
      subst hx
      exact index_str 9 Tryd.underlying9 t i (by omega) .i64 wx
    have hsz : (⟨t.toArray⟩ : ByteArray).size = 64 := by rw [size_str, h64]
    generalize hS : (⟨t.toArray⟩ : ByteArray) = S at *
    have HS := Lib.hid hS
    have HIX := Lib.hid hix
    have H64 := Lib.hid h64
    clear hS hix h64 ht
    have hr1 : ((w.alloc (.cells Z 23)).alloc (.cells Z 23)).rowIs (w.heap.size + 1) 23 32 (rcell t 0) := by
      have := rowIs_new (w.alloc (.cells Z 23)) Z 23 32 (rcell t 0) HZS.out (fun i hi => by rw [HZG.out i hi]; simp [rcell])
      simpa using this
    have HR1 := Lib.hid hr1
    clear hr1
    go_enter Tryd.func21, Tryd.ntmps21
    go_wp2_with fail
    go_loopw [5] (fun i wr => ∃ k : Nat, k ≤ 64 ∧ i = .int .i64 k ∧ (∀ j, j < k → chk t j = true) ∧ wr.heap[w.heap.size]? = some (.cells Z 23 (0, 0)) ∧ wr.rowIs (w.heap.size + 1) 23 32 (rcell t k) ∧ Fr0 w wr) (fun i _ => 64 - (intOf i).toNat)
    case atStart => exact ⟨0, by omega, rfl, fun j hj => by omega, HB0.out, HR1.out, ((Fr.refl _ _).alloc _).alloc _⟩
    case round =>
      clear HR1 HB0 HB1
      obtain ⟨k, hk, rfl, hall, hb0, hr1, hF⟩ := hrel
      have HALL := Lib.hid hall
      have HB0 := Lib.hid hb0
      have HR1 := Lib.hid hr1
      have HF := Lib.hid hF
      clear hall hb0 hr1 hF
      by_cases hlt : k < 64
      · have i0 := HIX.out k (k : Int) (by omega) rfl
        have hn := (t.getD k 0).toNat_lt
        generalize hN : (t.getD k 0).toNat = n at i0 hn
        have HN := Lib.hid hN
        clear hN
        by_cases hok1 : hok n = true
        · have HALL' : Hid (∀ j, j < k + 1 → chk t j = true) := Lib.hid (fun j hj => by
            by_cases h1 : j < k
            · exact HALL.out j h1
            · rw [show j = k from by omega]; unfold chk; rw [HN.out]; exact hok1)
          have cz : wr.cell? ⟨w.heap.size + 1, k / 2, none⟩ = some (.int .u8 (rval t k : Int)) := by have := HR1.out.cell (i := k / 2) (by omega); rw [this, rcell_at]
          have cf := HR1.out.frozen (k / 2)
          have hrv := rval_lt t k
          have hst := rcell_step t k n HN.out
          have hhv := hv_lt n
          have HST := Lib.hid hst
          generalize rval t k = r at *
          by_cases h9 : 48 ≤ n ∧ n ≤ 57
          · have hv1 : (hv n : Int) = (n : Int) - 48 := by unfold hv; rw [if_pos h9]; omega
            obtain ⟨h9a, h9b⟩ := h9
            rw [hv1] at hst
            have HST := Lib.hid hst
            clear hst hv1 hhv hok1
            go_wp2
            go_roundw
            case rel => exact ⟨k + 1, by omega, by go_num, HALL'.out, (Fr.setCell (S := fun q => q = w.heap.size + 1) (Fr.refl _ _) (fun _ => rfl) _).heap HB0.out (by omega), (HR1.out.set (k / 2) _).congr HST.out, HF.out.setCell (by intro h; exfalso; have h' : w.heap.size + 1 < w.heap.size := h; omega) _⟩
            case measure => simp only [intOf]; omega
          · have h6 : 97 ≤ n ∧ n ≤ 102 := by unfold hok at hok1; simp at hok1; omega
            have hv1 : (hv n : Int) = (n : Int) - 97 + 10 := by unfold hv; rw [if_neg h9, if_pos h6]; omega
            obtain ⟨h6a, h6b⟩ := h6
            have h9c : ¬ n ≤ 57 := by omega
            have h9d : 48 ≤ n := by omega
            rw [hv1] at hst
            have HST := Lib.hid hst
            clear hst hv1 hhv hok1 h9
            go_wp2
            go_roundw
            case rel => exact ⟨k + 1, by omega, by go_num, HALL'.out, (Fr.setCell (S := fun q => q = w.heap.size + 1) (Fr.refl _ _) (fun _ => rfl) _).heap HB0.out (by omega), (HR1.out.set (k / 2) _).congr HST.out, HF.out.setCell (by intro h; exfalso; have h' : w.heap.size + 1 < w.heap.size := h; omega) _⟩
            case measure => simp only [intOf]; omega
        · have HNO : Hid (parseOk t = false) := Lib.hid (parseOk_no t k hlt (by unfold chk; rw [HN.out]; simpa using hok1))
          have hno : ¬ ((48 ≤ n ∧ n ≤ 57) ∨ (97 ≤ n ∧ n ≤ 102)) := by unfold hok at hok1; simpa using hok1
          clear hok1
          by_cases g1 : 48 ≤ n
          · have g2 : ¬ n ≤ 57 := by omega
            by_cases g3 : 97 ≤ n
            · have g4 : ¬ n ≤ 102 := by omega
              clear hno
              go_wp2_with (refine wpList_store_row rfl 23 _ _ rfl w.heap.size Z rfl rfl 23 _ HB0.out HZI.out rfl HZ1.out ?_)
              exact bodyPost_ret (v := .tuple #[.agg Z, .bool false]) (results_cell_row2 (fn := Tryd.f21) rfl _ _ w.heap.size 23 Z (0, 0) _ rfl _ rfl (setRow_heap _ _ _ _ _ _ HB0.out) Tryd.underlying23 rfl HZI.out) rfl ⟨ParsePost_no HZ.out HNO.out rfl, Fr.setRow HF.out (by intro h; exfalso; omega) _⟩
            · clear hno
              go_wp2_with (refine wpList_store_row rfl 23 _ _ rfl w.heap.size Z rfl rfl 23 _ HB0.out HZI.out rfl HZ1.out ?_)
              exact bodyPost_ret (v := .tuple #[.agg Z, .bool false]) (results_cell_row2 (fn := Tryd.f21) rfl _ _ w.heap.size 23 Z (0, 0) _ rfl _ rfl (setRow_heap _ _ _ _ _ _ HB0.out) Tryd.underlying23 rfl HZI.out) rfl ⟨ParsePost_no HZ.out HNO.out rfl, Fr.setRow HF.out (by intro h; exfalso; omega) _⟩
          · have g3 : ¬ 97 ≤ n := by omega
            clear hno
            go_wp2_with (refine wpList_store_row rfl 23 _ _ rfl w.heap.size Z rfl rfl 23 _ HB0.out HZI.out rfl HZ1.out ?_)
            exact bodyPost_ret (v := .tuple #[.agg Z, .bool false]) (results_cell_row2 (fn := Tryd.f21) rfl _ _ w.heap.size 23 Z (0, 0) _ rfl _ rfl (setRow_heap _ _ _ _ _ _ HB0.out) Tryd.underlying23 rfl HZI.out) rfl ⟨ParsePost_no HZ.out HNO.out rfl, Fr.setRow HF.out (by intro h; exfalso; omega) _⟩
      · have hk64 : k = 64 := by omega
        have hall := HALL.out
        have hr1 := HR1.out
        rw [hk64] at hall hr1
        have HYES : Hid (parseOk t = true) := Lib.hid (by
          unfold parseOk
          have : (List.range 64).all (chk t) = true := by
            rw [List.all_eq_true]; intro i hi; exact hall i (by simpa using hi)
          simp [this, H64.out])
        have HPC := Lib.hid (parsed_cells (hr1.congr (rcell_done t)))
        have HPI := Lib.hid (parsed_info23 t)
        have HPS : Hid (Z.size = (parsedArr t).size) := Lib.hid (by rw [HZS.out, parsedArr_size])
        clear hall hr1 hk64
        go_wp2_with (first | (refine wpList_load_row rfl 23 _ rfl (w.heap.size + 1) rfl 23 (parsedArr t) (0, 0) _ HPC.out Tryd.underlying23 rfl HPI.out ?_) | (refine wpList_store_row rfl 23 _ _ rfl w.heap.size (parsedArr t) rfl rfl 23 _ HB0.out HPI.out HPS.out (parsedArr_one t) ?_))
        exact bodyPost_ret (v := .tuple #[.agg (parsedArr t), .bool true]) (results_cell_row2 (fn := Tryd.f21) rfl _ _ w.heap.size 23 (parsedArr t) (0, 0) _ rfl _ rfl (setRow_heap _ _ _ _ _ _ HB0.out) Tryd.underlying23 rfl HPI.out) rfl ⟨ParsePost_yes HYES.out rfl, Fr.setRow HF.out (by intro h; exfalso; omega) _⟩
  · have hno : parseOk t = false := by unfold parseOk; simp [h64]
    have HNO := Lib.hid hno
    clear hno
    have hlb : (((t.length : Nat) : Int) != 64) = true := by rw [bne_iff_ne]; omega
    generalize hS : (⟨t.toArray⟩ : ByteArray) = S
    have hsz : S.size = t.length := by rw [← hS]; simp [ByteArray.size]
    have HS := Lib.hid hS
    clear hS
    rw [← hsz] at hlb ht
    clear hsz h64
    go_enter Tryd.func21, Tryd.ntmps21
    go_wp2_with (first | (refine wpList_load_row rfl 23 _ rfl (w.heap.size + 1) rfl 23 Z (0, 0) _ HB1.out Tryd.underlying23 rfl HZI.out ?_) | (refine wpList_store_row rfl 23 _ _ rfl w.heap.size Z rfl rfl 23 _ HB0.out HZI.out rfl HZ1.out ?_))
    exact bodyPost_ret (v := .tuple #[.agg Z, .bool false]) (results_cell_row2 (fn := Tryd.f21) rfl _ _ w.heap.size 23 Z (0, 0) _ rfl _ rfl (setRow_heap _ _ _ _ _ _ HB0.out) Tryd.underlying23 rfl HZI.out) rfl ⟨ParsePost_no HZ.out HNO.out rfl, Fr.setRow (Fr.alloc (Fr.alloc (Fr.refl _ _) _) _) (by intro h; exfalso; omega) _⟩
theorem refParse_any (t : List UInt8) (w : World) (ht : t.length ≤ 9223372036854775807) : Calls Tryd.prog 21 #[.string ⟨t.toArray⟩] w fun e w' =>
    e = .returned (.tuple #[.agg (bvals (parseList t)).toArray, .bool (parseOk t)]) ∧ Fr0 w w' := by
  refine (refParse_post t w ht).mono fun e w' ⟨h1, h2⟩ => ⟨?_, h2⟩
  unfold ParsePost at h1
  unfold parseList
  cases hp : parseOk t
  · rw [hp] at h1
    simp only [Bool.false_eq_true, if_false] at h1 ⊢
    rw [h1]
    first | rfl | (congr 1; done) | congr 1
  · rw [hp] at h1
    simp only [if_true] at h1 ⊢
    rw [h1]
    rfl
end Go.Proofs.YtcdfflieooopjaaDoor.Sha
