/-
  The reference's Sum.
-/
import Derived.Test.YtcdfflieooopjaaDoorRefFin
import Derived.Deep.LoopGhost
import Derived.Deep.DeepCutAuto
import Derived.Deep.CutBlock
namespace Go.Proofs.YtcdfflieooopjaaDoor.Sha
open Go.RowKit Base

theorem beb_u64 (v : Nat) : beb v 8 = u64be v := by
  unfold beb u64be
  apply List.map_congr_left
  intro j hj
  rw [show 8 * (8 - 1 - j) = 56 - 8 * j from by have := List.mem_range.1 hj; omega]
def msgZ (m : List UInt8) (z : Nat) : List UInt8 := m ++ ([128] ++ List.replicate z 0)
theorem msgZ_A (m : List UInt8) (z : Nat) : msgZ m z = msgA m z := by simp [msgZ, msgA]

theorem pad_len (m : List UInt8) : (pad m).length = m.length + 1 + zeros m.length + 8 := by simp [pad, u64be]; omega
theorem ref_len (v : Value) (m : List UInt8) (hm : m.length ≤ 1048576) (z : Nat) (hz : z = zeros m.length) (w : World) (hB : BytesIs w v (msgZ m z)) :
    Calls Tryd.prog 37 #[v, .int .u64 ((m.length : Int) * 8), .int .i64 8] w (RetBytes w (pad m)) := by
  have hzl := zeros_lt m.length
  have h := u_any v (msgZ m z) (m.length * 8) 8 (by omega) (by omega) (by simp [msgZ]; omega) w hB
  rw [show msgZ m z ++ beb (m.length * 8) 8 = pad m from by rw [beb_u64, hz]; simp [msgZ, pad]] at h
  exact h
def initArr : Array Value := #[.int .u32 1779033703, .int .u32 3144134277, .int .u32 1013904242, .int .u32 2773480762, .int .u32 1359893119, .int .u32 2600822924, .int .u32 528734635, .int .u32 1541459225]
theorem st_start (w : World) (Z : Array Value) : ((w.alloc (.cells Z 23)).alloc (.cells initArr 49)).rowIs (w.heap.size + 1) 49 8 (stCell init) :=
  rowIs_of_cells (heap_alloc2_new w _ _) rfl (fun i hi => by
    match i, hi with
    | 0, _ | 1, _ | 2, _ | 3, _ | 4, _ | 5, _ | 6, _ | 7, _ => rfl)
theorem res_start (w : World) (Z : Array Value) (o : Obj) (hZ : Array.replicate 32 (Value.int .u8 0) = Z) : ((w.alloc (.cells Z 23)).alloc o).rowIs w.heap.size 23 32 (fun _ => .int .u8 0) :=
  (rowIs_new w Z _ 32 _ (by rw [← hZ]; simp) (fun i hi => by rw [← hZ]; simp [hi])).alloc _
set_option maxHeartbeats 4000000 in
set_option maxRecDepth 100000 in
theorem refSum_any (vm : Value) (m : List UInt8) (hm : m.length ≤ 1048576) (w : World) (hB : BytesIs w vm m) :
    Calls Tryd.prog 22 #[vm] w fun e w' => e = .returned (.agg (digArr m)) ∧ Fr0 w w' := by
  obtain ⟨sa, sn, sc, hsv⟩ := hB.slice
  subst hsv
  have hsn : sn = m.length := by obtain ⟨_, _, _, _, h, _⟩ := hB; cases h; rfl
  subst hsn
  have HB := Lib.hid hB
  clear hB
  have hz := (zero_of_info (P := Tryd.prog) zero23j).1
  generalize hZ : (Array.replicate 32 (Value.int .u8 0)) = Z at hz
  have HZ := Lib.hid hZ
  clear hZ
  have hzl := zeros_lt m.length
  go_enter Tryd.func22, Tryd.ntmps22
  go_wp2_with (at_builtin; refine wpList_append_bytes rfl (.tmp 29) (.tmp 30) 30 rfl (w.heap.size + 2) 5 Tryd.underlying30 infoU8 _ _ 0 [] m rfl rfl (owns_empty _ _ _ (by simp) _ (by simp)) (HB.out.fr0 (Fr.alloc (Fr.alloc (Fr.alloc (Fr.refl _ _) _) _) _)) (by omega) (by simp) ?_)
  intro v1 w1 hown1 hgr1
  have hF1 : Fr0 ((w.alloc (.cells Z 23)).alloc (.cells initArr 49)) w1 := Fr.grown (Fr.alloc (Fr.refl _ _) _) hgr1 (fun q hq e => by
    simp [Value.ownBlock] at e; simp at hq; omega)
  have HOWN1 : Hid (w1.ownsRow (w.heap.size + 2) 5 1 v1 m.length (bvals m)) := Lib.hid (by simpa using hown1)
  have HST1 : Hid (w1.rowIs (w.heap.size + 1) 49 8 (stCell (st (pad m) 0))) := Lib.hid (hF1.row (st_start w Z) (fun f => f))
  have HRS1 : Hid (w1.rowIs w.heap.size 23 32 (fun _ => .int .u8 0)) := Lib.hid (hF1.row (res_start w Z _ HZ.out) (fun f => f))
  have HF1 : Hid (Fr0 w w1) := Lib.hid (Fr.trans' (Fr.alloc (Fr.alloc (Fr.refl _ _) _) _) hF1)
  have hsz1 : w.heap.size + 2 ≤ w1.heap.size := by have := hF1.size; simpa using this
  clear hown1 hgr1 hF1
  go_wp2_with (at_builtin; refine wpList_append_bytes rfl (.tmp 32) (.tmp 33) 30 rfl (w.heap.size + 2) 5 Tryd.underlying30 infoU8 _ _ m.length m [128] rfl rfl (HOWN1.out.alloc _) (BytesIs.one w1 128 _ rfl _ _ rfl) (by simp; omega) (by simp; omega) ?_)
  intro v2 w2 hown2 hgr2
  have hF2 : Fr (fun k => w.heap.size + 2 ≤ k) w1 w2 := Fr.grown (Fr.alloc (Fr.refl _ _) _) hgr2 (fun q hq e => (HOWN1.out.lt q e).1)
  have HOWN2 : Hid (w2.ownsRow (w.heap.size + 2) 5 1 v2 (m.length + 1) (bvals (msgZ m 0))) := Lib.hid hown2
  have HST2 := Lib.hid (hF2.row HST1.out (by omega))
  have HRS2 := Lib.hid (hF2.row HRS1.out (by omega))
  have HF2 : Hid (Fr0 w w2) := Lib.hid (HF1.out.trans hF2 (fun i hi h => by omega))
  have hsz2 := hF2.size
  clear hown2 hgr2 hF2 HOWN1 HST1 HRS1 HF1
  go_wp2_with fail
  go_loopg [4] (zeros m.length) (fun g s wr => ∃ z : Nat, z + g = zeros m.length ∧ wr.ownsRow (w.heap.size + 2) 5 1 s (m.length + 1 + z) (bvals (msgZ m z)) ∧ wr.rowIs (w.heap.size + 1) 49 8 (stCell (st (pad m) 0)) ∧ wr.rowIs w.heap.size 23 32 (fun _ => .int .u8 0) ∧ Fr0 w wr ∧ w.heap.size + 2 ≤ wr.heap.size)
  case atStart => exact ⟨0, by omega, HOWN2.out, HST2.out, HRS2.out, HF2.out, by omega⟩
  case round =>
    clear HOWN2 HST2 HRS2 HF2 hsz1 hsz2
    obtain ⟨z, hzg, hown, hst, hrs, hF, hsz⟩ := hrel
    have HOWN := Lib.hid hown
    have HST := Lib.hid hst
    have HRS := Lib.hid hrs
    have HF := Lib.hid hF
    have hval : ∃ a c, u4 = .slice a (m.length + 1 + z) c := by rcases hown.2 with ⟨h, h0⟩ | ⟨g, c, _, h, _⟩; · omega
                                                                · exact ⟨_, c, h⟩
    obtain ⟨ua, uc, hu4⟩ := hval
    subst hu4
    clear hown hst hrs hF
    by_cases hlast : z = zeros m.length
    · have hw : (m.length + 1 + z) % 64 = 56 := (zeros_at m.length z (by omega)).2 hlast
      obtain rfl := hlast
      have hwb : (((m.length + 1 + zeros m.length : Nat) : Int) % 64 != 56) = false := by
        rw [Bool.eq_false_iff]; intro h; rw [bne_iff_ne] at h; omega
      have HP0 := Lib.hid (BytesIs.own HOWN.out)
      go_wp2_with fail
      refine (ref_len _ m hm (zeros m.length) rfl wr HP0.out).mono ?_
      rintro e w3 ⟨v3, rfl, hB3, hF3, hnew3⟩
      have HP := Lib.hid hB3
      have HNEW := Lib.hid hnew3
      have HST3 := Lib.hid (hF3.row HST.out (fun f => f))
      have HRS3 := Lib.hid (hF3.row HRS.out (fun f => f))
      have HF3 := Lib.hid (HF.out.trans' hF3)
      have hsz3 := hF3.size
      obtain ⟨pa, pn, pc, hv3⟩ := hB3.slice
      subst hv3
      have hpn : pn = (pad m).length := by obtain ⟨_, _, _, _, h, _⟩ := HP.out; cases h; rfl
      have hQ : (pad m).length = 64 * ((pad m).length / 64) := by rw [pad_len]; omega
      have hQ2 : (pad m).length ≤ 2097152 := by rw [pad_len]; omega
      subst hpn
      have HSUM := Lib.hid (show digArr m = (bvals (digest m)).toArray from rfl)
      have HFIN := Lib.hid (show fin m = st (pad m) ((pad m).length / 64) from rfl)
      have HNB : Hid (∀ a : Addr, pa = some a → w.heap.size + 2 ≤ a.block) := Lib.hid (fun a h => by
        have := HNEW.out a _ _ (by rw [h]); omega)
      clear hB3 hF3 hnew3 HOWN HST HRS HF HP0 hzg HNEW
      have HQL := Lib.hid hQ
      have HQ3 : Hid ((pad m).length / 64 ≤ 32768) := Lib.hid (by omega)
      clear hQ hQ2
      go_upto_block 2 with fail
      rename_i hK
      rw [Fm_of _ 263 rfl]
      refine wp_mono (outer_any (pad m) ((pad m).length / 64) (w.heap.size + 1) pa (pad m).length pc HQL.out rfl HQ3.out _ rfl rfl rfl w3 HP.out (fun a h e => by have := HNB.out a h; omega) HST3.out _ ?_) Only.then
      intro f' w4 k4 hr4 hF4
      refine hK _ _ ?_
      refine end_code m (w.heap.size + 1) w.heap.size f' (k4 2 (by simp)) (k4 3 (by simp)) w4 hr4 (hF4.row HRS3.out (by omega)) _ ?_
      intro f5 w5 e2 hh hF5
      exact bodyPost_ret (v := .agg (digArr m)) (results_cell_row (fn := Tryd.f22) rfl _ _ w.heap.size 23 (digArr m) (0, 0) _ ((Fm_eval 263 f5 2 (by decide)).trans e2) hh Tryd.underlying23 rfl (dig_info23 m)) rfl ⟨rfl, (HF3.out.trans hF4 (fun i hi h => by omega)).trans hF5 (fun i hi h => by omega)⟩
    · skip -- DEV
      have hw : ¬ (m.length + 1 + z) % 64 = 56 := fun e => hlast ((zeros_at m.length z (by omega)).1 e)
      have hwb : (((m.length + 1 + z : Nat) : Int) % 64 != 56) = true := by rw [bne_iff_ne]; omega
      go_wp2_with (at_builtin; refine wpList_append_bytes rfl (.tmp 39) (.tmp 40) 30 rfl (w.heap.size + 2) 5 Tryd.underlying30 infoU8 _ _ (m.length + 1 + z) (msgZ m z) [0] rfl rfl (HOWN.out.alloc _) (BytesIs.one wr 0 _ rfl _ _ rfl) (by simp; omega) (by simp; omega) ?_)
      intro v' w' hown' hgr'
      have hF' : Fr (fun k => w.heap.size + 2 ≤ k) wr w' := Fr.grown (Fr.alloc (Fr.refl _ _) _) hgr' (fun q hq e => (HOWN.out.lt q e).1)
      have HOWN' : Hid (w'.ownsRow (w.heap.size + 2) 5 1 v' (m.length + 1 + (z + 1)) (bvals (msgZ m (z + 1)))) := Lib.hid (by
        have e : msgZ m z ++ [0] = msgZ m (z + 1) := by simp [msgZ, List.replicate_succ']
        rw [e] at hown'; exact hown')
      have HST' := Lib.hid (hF'.row HST.out (by omega))
      have HRS' := Lib.hid (hF'.row HRS.out (by omega))
      have HF' : Hid (Fr0 w w') := Lib.hid (HF.out.trans hF' (fun i hi h => by omega))
      have hsz' := hF'.size
      clear hown' hgr' hF' HOWN HST HRS HF
      go_wp2_with fail
      go_roundg (gk - 1)
      case measure => omega
      case rel => exact ⟨z + 1, by omega, HOWN'.out, HST'.out, HRS'.out, HF'.out, by omega⟩
end Go.Proofs.YtcdfflieooopjaaDoor.Sha
