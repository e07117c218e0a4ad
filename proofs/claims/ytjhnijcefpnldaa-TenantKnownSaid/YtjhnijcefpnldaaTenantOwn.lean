/-
  The laws' own, owns, some.
-/
import Derived.Test.YtjhnijcefpnldaaTenantMem
import Derived.Test.YtjhnijcefpnldaaChecked
import Derived.WalkKit
import Derived.KernelRfl
import Derived.Lib.SlBytesConst
import Derived.Deep.DeepCutAuto
import Derived.Deep.LoopGhost
namespace Go.Proofs.Ytjhnijcefpnldaa.TenantL
open Go.RowKit Base _root_.Go.Proofs.Ytjhnijcefpnldaa.Tenant

theorem infoR : (Try.prog.info? 38).map (·.size) = some 9 := by kernel_rfl
theorem infoP : (Try.prog.info? 26).map (·.size) = some 9 := by kernel_rfl
theorem results_r {fn : Func} {p : Tmp} (h : fn.results = #[.cell p 38]) (tmps : Array Value) (w : World) (g : Nat) (cs : Array Value) (hp : tmps.getD p undef = .pointer (some ⟨g, 0, none⟩)) (hg : w.heap[g]? = some (.cells cs 38 (0, 0))) (hi : (Try.prog.info? 38).map (·.size) = some cs.size) :
    (results fn tmps).run Try.prog w = .ok (.agg cs) w := by
  have hp' : tmps[p]?.getD undef = .pointer (some ⟨g, 0, none⟩) := by simpa using hp
  simp [results, h, hp', asAddr, run_loadVar_row w g 38 38 cs (0, 0) _ hg Try.underlying38 rfl hi]
theorem results_p {fn : Func} {p : Tmp} (h : fn.results = #[.cell p 26]) (tmps : Array Value) (w : World) (g : Nat) (cs : Array Value) (hp : tmps.getD p undef = .pointer (some ⟨g, 0, none⟩)) (hg : w.heap[g]? = some (.cells cs 26 (0, 0))) (hi : (Try.prog.info? 26).map (·.size) = some cs.size) :
    (results fn tmps).run Try.prog w = .ok (.agg cs) w := by
  have hp' : tmps[p]?.getD undef = .pointer (some ⟨g, 0, none⟩) := by simpa using hp
  simp [results, h, hp', asAddr, run_loadVar_row w g 26 26 cs (0, 0) _ hg Try.underlying26 rfl hi]
theorem lit_mark (w : World) (l : List UInt8) (c : Array Value) (t : TypeId) (fr : Nat × Nat) (n : Nat) (hn : n = l.length) (cap : Nat) (hcap : n ≤ cap) (hc : bvals l = c.toList) (N : Nat) (hN : N = w.heap.size) :
    BytesIs (w.alloc (.cells c t fr)) (.slice (some ⟨N, 0, none⟩) n cap) l := by
  subst hn hN
  refine ⟨_, cap, w.heap.size, 0, rfl, hcap, fun _ => rfl, fun j hj => ?_⟩
  rw [cell_of_row _ _ _ _ _ _ (heap_alloc_new w _), Nat.zero_add]
  have := bvals_get l j hj
  rw [hc] at this
  simpa using this
set_option maxHeartbeats 2000000 in
theorem own_any (A : Option Addr) (n C : Nat) (t : Tn) (w : World) :
    Calls Try.prog 17 #[.agg (t9 (.slice A n C) t)] w fun e w' => e = .returned (.agg (t9 (.slice A n C) t)) ∧ Fr0 w w' := by
  obtain ⟨W1, hW1⟩ : ∃ W1, W1 = (w.alloc (.cells #[.int .i64 t.id, .slice A n C, .int .i64 t.ri, .int .i64 t.bu, .int .i64 t.qu, .int .i64 t.ev, .int .i64 t.qe, .int .i64 t.se, .int .i64 t.re] 26)).alloc (.cells #[.int .i64 0, .slice none 0 0, .int .i64 0, .int .i64 0, .int .i64 0, .int .i64 0, .int .i64 0, .int .i64 0, .int .i64 0] 38) := ⟨_, rfl⟩
  have hb := (Bx.new 26 w (.slice A n C) t).fr0 ((Fr.refl (fun _ => False) _).alloc (.cells #[.int .i64 0, .slice none 0 0, .int .i64 0, .int .i64 0, .int .i64 0, .int .i64 0, .int .i64 0, .int .i64 0, .int .i64 0] 38))
  have hz := heap_alloc_new (w.alloc (.cells #[.int .i64 t.id, .slice A n C, .int .i64 t.ri, .int .i64 t.bu, .int .i64 t.qu, .int .i64 t.ev, .int .i64 t.qe, .int .i64 t.se, .int .i64 t.re] 26)) (.cells #[.int .i64 0, .slice none 0 0, .int .i64 0, .int .i64 0, .int .i64 0, .int .i64 0, .int .i64 0, .int .i64 0, .int .i64 0] 38)
  rw [show (w.alloc (.cells #[.int .i64 t.id, .slice A n C, .int .i64 t.ri, .int .i64 t.bu, .int .i64 t.qu, .int .i64 t.ev, .int .i64 t.qe, .int .i64 t.se, .int .i64 t.re] 26)).heap.size = w.heap.size + 1 by simp] at hz
  have HZ := Lib.hid hz
  have HF1 : Hid (Fr0 w W1) := Lib.hid (by rw [hW1]; exact ((Fr.refl _ _).alloc _).alloc _)
  obtain ⟨c0, c1, c2, c3, c4, c5, c6, c7, c8⟩ := hb.cells
  rw [← hW1] at hz
  have HZ1 := Lib.hid hz
  have HW1 := Lib.hid hW1
  clear hb hz hW1
  unfold t9
  go_enter Try.func17, Try.ntmps17
  go_wp2_with (refine wpList_store_row rfl 38 _ _ rfl (w.heap.size + 1) #[.int .i64 t.id, .slice A n C, .int .i64 t.ri, .int .i64 t.bu, .int .i64 t.qu, .int .i64 t.ev, .int .i64 t.qe, .int .i64 t.se, .int .i64 t.re] rfl rfl 38 _ HZ.out infoR rfl (t9_one _ t rfl) ?_; rw [← HW1.out])
  have hz2 := setRow_heap W1 (w.heap.size + 1) _ #[.int .i64 t.id, .slice A n C, .int .i64 t.ri, .int .i64 t.bu, .int .i64 t.qu, .int .i64 t.ev, .int .i64 t.qe, .int .i64 t.se, .int .i64 t.re] _ _ HZ1.out
  have hfe : Fr0 w (W1.setRow (w.heap.size + 1) #[.int .i64 t.id, .slice A n C, .int .i64 t.ri, .int .i64 t.bu, .int .i64 t.qu, .int .i64 t.ev, .int .i64 t.qe, .int .i64 t.se, .int .i64 t.re]) := Fr.setRow HF1.out (fun h => absurd h (by omega)) _
  (try simp only [Exit.inBlock, Exit.then])
  exact bodyPost_ret (results_r rfl _ _ (w.heap.size + 1) _ rfl hz2 infoR) rfl ⟨rfl, hfe⟩
/-- the one that may be, by an ID -/
def someT (id : Int) : Tn := ⟨id, [107], 3, 64, 5, 2, 4, 3, 9⟩
theorem some_good (id : Int) (h : 0 ≤ id ∧ id ≤ 65535) : good (someT id) = true := (good_iff _).2 ⟨h, by show 1 ≤ 1 ∧ 1 ≤ 64; decide, by show (0 : Int) ≤ 3 ∧ (3 : Int) ≤ 3; decide, by show (0 : Int) ≤ 64 ∧ (64 : Int) ≤ 65536; decide, by show (0 : Int) ≤ 5 ∧ (5 : Int) ≤ 1048576; decide, by show (1 : Int) ≤ 2 ∧ (2 : Int) ≤ 1048576; decide, by show (1 : Int) ≤ 4 ∧ (4 : Int) ≤ 16; decide, by show (1 : Int) ≤ 3 ∧ (3 : Int) ≤ 16; decide, by show (1 : Int) ≤ 9 ∧ (9 : Int) ≤ 64; decide⟩
set_option maxHeartbeats 2000000 in
theorem some_any (id : Int) (w : World) :
    Calls Try.prog 8 #[.int .i64 id] w fun e w' => ∃ g, e = .returned (.agg (t9 (.slice (some ⟨g, 0, none⟩) 1 1) (someT id))) ∧ BytesIs w' (.slice (some ⟨g, 0, none⟩) 1 1) [107] ∧ w.heap.size ≤ g ∧ Fr0 w w' := by
  have kc := fun (w : World) (C : Array Value) (n c : Nat) => Lib.run_convert_bytes_const (P := Try.prog) w 24 5 C n c Try.underlying24 Try.underlying5
  have kc2 : ∀ (w : World) (o : Obj) (C : Array Value) (n c : Nat), (convert 24 24 (.slice (some ⟨w.heap.size + 1, 0, none⟩) n c)).run Try.prog ((w.alloc o).alloc (.cells C 5)) = .ok (.slice (some ⟨w.heap.size + 1, 0, none⟩) n c) ((w.alloc o).alloc (.cells C 5 (C.size, C.size + 1))) := fun w o C n c => by
    have := kc (w.alloc o) C n c
    rwa [World.size_alloc] at this
  obtain ⟨W2, hW2⟩ : ∃ W2, W2 = (w.alloc (.cells #[.int .i64 0, .slice none 0 0, .int .i64 0, .int .i64 0, .int .i64 0, .int .i64 0, .int .i64 0, .int .i64 0, .int .i64 0] 26)).alloc (.cells #[.int .u8 107] 5 (1, 2)) := ⟨_, rfl⟩
  have hz : W2.heap[w.heap.size]? = some (.cells #[.int .i64 0, .slice none 0 0, .int .i64 0, .int .i64 0, .int .i64 0, .int .i64 0, .int .i64 0, .int .i64 0, .int .i64 0] 26 (0, 0)) := by rw [hW2]; exact ((Fr.refl (fun _ => False) _).alloc _).heap (heap_alloc_new w _) (fun f => f)
  have hb : BytesIs W2 (.slice (some ⟨w.heap.size + 1, 0, none⟩) 1 1) [107] := by rw [hW2]; exact lit_mark _ [107] _ _ _ 1 rfl 1 (Nat.le_refl _) rfl _ (by simp)
  have HF1 : Hid (Fr0 w W2) := Lib.hid (by rw [hW2]; exact ((Fr.refl _ _).alloc _).alloc _)
  have HZ := Lib.hid hz
  have HB := Lib.hid hb
  have HW2 := Lib.hid hW2
  rw [hW2] at hz
  have HZ0 := Lib.hid hz
  clear hz hb hW2
  go_enter Try.func8, Try.ntmps8
  go_wp2_with (refine wpList_store_row rfl 26 _ _ rfl w.heap.size #[.int .i64 id, .slice (some ⟨w.heap.size + 1, 0, none⟩) 1 1, .int .i64 3, .int .i64 64, .int .i64 5, .int .i64 2, .int .i64 4, .int .i64 3, .int .i64 9] rfl rfl 26 _ HZ0.out infoP rfl (t9_one (.slice (some ⟨w.heap.size + 1, 0, none⟩) 1 1) (someT id) rfl) ?_; rw [← HW2.out])
  have hz2 := setRow_heap W2 w.heap.size _ #[.int .i64 id, .slice (some ⟨w.heap.size + 1, 0, none⟩) 1 1, .int .i64 3, .int .i64 64, .int .i64 5, .int .i64 2, .int .i64 4, .int .i64 3, .int .i64 9] _ _ HZ.out
  have hfs : Fr (fun k => k = w.heap.size) W2 (W2.setRow w.heap.size #[.int .i64 id, .slice (some ⟨w.heap.size + 1, 0, none⟩) 1 1, .int .i64 3, .int .i64 64, .int .i64 5, .int .i64 2, .int .i64 4, .int .i64 3, .int .i64 9]) := Fr.setRow (S := fun k => k = w.heap.size) (Fr.refl _ _) (fun _ => rfl) _
  have hfe := HF1.out.trans hfs (fun k hk e => by have e' : k = w.heap.size := e; omega)
  (try simp only [Exit.inBlock, Exit.then])
  exact bodyPost_ret (results_p rfl _ _ w.heap.size _ rfl hz2 infoP) rfl ⟨w.heap.size + 1, rfl, HB.out.fr hfs (fun q n c h e => by cases h; have e' : w.heap.size + 1 = w.heap.size := e; omega), by omega, hfe⟩
theorem infoRL : (Try.prog.info? 38).map (fun i => (i.zero, i.size, i.bytes)) = some (some (.agg #[.int .i64 0, .slice none 0 0, .int .i64 0, .int .i64 0, .int .i64 0, .int .i64 0, .int .i64 0, .int .i64 0, .int .i64 0]), 9, 88) := by kernel_rfl
theorem nine_lit (w : World) (sv : Value) (t : Tn) (ty : TypeId) : ValsIs (w.alloc (.cells #[.int .i64 t.id, sv, .int .i64 t.ri, .int .i64 t.bu, .int .i64 t.qu, .int .i64 t.ev, .int .i64 t.qe, .int .i64 t.se, .int .i64 t.re] ty)) (.slice (some ⟨w.heap.size, 0, none⟩) 1 1) 1 (tcells [(sv, t)]) := by
  refine ⟨_, 1, w.heap.size, 0, rfl, Nat.le_refl _, fun _ => rfl, fun j hj => ?_⟩
  rw [cell_of_row _ _ _ _ _ _ (heap_alloc_new w _), Nat.zero_add]
  have hj9 : j < 9 := by rw [tcells_length] at hj; simpa using hj
  have h := tcells_get [(sv, t)] 0 Nat.zero_lt_one j hj9
  rw [Nat.zero_mul, Nat.zero_add] at h
  rw [List.getD_eq_getElem?_getD, h]
  match j, hj9 with
  | 0, _ => rfl
  | 1, _ => rfl
  | 2, _ => rfl
  | 3, _ => rfl
  | 4, _ => rfl
  | 5, _ => rfl
  | 6, _ => rfl
  | 7, _ => rfl
  | 8, _ => rfl
set_option maxRecDepth 100000 in
set_option maxHeartbeats 4000000 in
theorem owns_any (v : Value) (L : List Tn) (hl : L.length ≤ 1000) (w : World) (hT : Tens w v L) :
    Calls Try.prog 13 #[v] w fun e w' => ∃ v', e = .returned v' ∧ Tens w' v' L ∧ Fr0 w w' := by
  obtain ⟨A, C, rfl⟩ := hT.form
  have HT := Lib.hid hT
  clear hT
  generalize hN : L.length = N at *
  have HN := Lib.hid hN
  clear hN
  go_enter Try.func13, Try.ntmps13
  go_wp2_with fail
  go_loopg [3, 4] N (fun kx va vi wr => ∃ (i : Nat) (X : List At) (Aa : Option Addr) (Ca : Nat), vi = .int .i64 (i : Int) ∧ va = .slice Aa i Ca ∧ i ≤ N ∧ N - i ≤ kx ∧ Hid (X.length = i ∧ X.map (·.2) = L.take i) ∧ Hid (wr.ownsRow w.heap.size 38 9 (.slice Aa i Ca) i (tcells X)) ∧ Hid (Keys w X) ∧ Hid (Fr0 w wr))
  case atStart => exact ⟨0, [], none, 0, rfl, rfl, Nat.zero_le _, by omega, Lib.hid ⟨rfl, by simp⟩, Lib.hid (World.ownsRow_nil _ _ _ _), Lib.hid (fun p hp => by simp at hp), Lib.hid (Fr.refl _ _)⟩
  case round =>
    obtain ⟨i, X, Aa, Ca, rfl, rfl, hi, hk, HX, HO, HK, HF⟩ := hrel
    by_cases hlt : i < N
    · obtain ⟨pb, po, B, D, rfl, hc, hb⟩ := tens_at HT.out i (by have := HN.out; omega)
      have i1 : (i : Int) < (N : Int) := by omega
      have i2 : 0 ≤ (i : Int) := by omega
      have HTK : Hid (L.take (i + 1) = L.take i ++ [L.getD i zero]) := Lib.hid (by
        rw [List.take_succ_eq_append_getElem (by have := HN.out; omega), List.getD_eq_getElem?_getD, List.getElem?_eq_getElem (by have := HN.out; omega)]
        rfl)
      obtain ⟨c0, c1, c2, c3, c4, c5, c6, c7, c8⟩ := hc wr HF.out
      have HB := Lib.hid hb
      clear hc hb
      generalize L.getD i zero = q at *
      have how := own_any B q.key.length D q wr
      unfold t9 at how
      go_wp2_with fail
      refine how.mono ?_
      clear how c0 c1 c2 c3 c4 c5 c6 c7 c8
      rintro e w2 ⟨rfl, hF2⟩
      have HF2 := Lib.hid (HF.out.trans' hF2)
      have HO2 := Lib.hid (ownsFr hF2 HO.out (fun _ _ f => f))
      have HFL := Lib.hid ((Fr.refl (fun _ => False) w2).alloc (.cells #[.int .i64 q.id, .slice B q.key.length D, .int .i64 q.ri, .int .i64 q.bu, .int .i64 q.qu, .int .i64 q.ev, .int .i64 q.qe, .int .i64 q.se, .int .i64 q.re] 38))
      have HOL := Lib.hid (ownsFr HFL.out HO2.out (fun _ _ f => f))
      have HLT := Lib.hid (nine_lit w2 (.slice B q.key.length D) q 38)
      clear hF2
      go_wp2_with (refine wpList_append_valsN rfl (.tmp 11) (.tmp 17) 35 rfl w.heap.size 38 Try.underlying35 (.agg #[.int .i64 0, .slice none 0 0, .int .i64 0, .int .i64 0, .int .i64 0, .int .i64 0, .int .i64 0, .int .i64 0, .int .i64 0]) 9 88 infoRL rfl (by decide) _ _ i 1 (tcells X) (tcells [(.slice B q.key.length D, q)]) rfl rfl HOL.out HLT.out (by decide) rfl (by intro u hu; simp [tcells, t9] at hu; rcases hu with rfl | rfl | rfl | rfl | rfl | rfl | rfl | rfl | rfl <;> rfl) (by unfold maxLen; omega) (by omega) (Nat.le_trans HF2.out.size HFL.out.size) ?_)
      intro vz Wz hOz hGz hNz
      have HFZ : Hid (Fr0 w Wz) := Lib.hid ((HF2.out.trans' HFL.out).trans (Fr.of_grown (S := fun j => (Value.slice Aa i Ca).ownBlock = some j) hGz (fun k hk e => e)) (fun j hj e => by have := (HOL.out.lt j e).1; omega))
      obtain ⟨Az, Cz, rfl, _⟩ := owns_form hOz
      have HOZ : Hid (Wz.ownsRow w.heap.size 38 9 (.slice Az (i + 1) Cz) (i + 1) (tcells (X ++ [(.slice B q.key.length D, q)]))) := Lib.hid (by rw [tcells_append]; exact hOz)
      have HXZ : Hid ((X ++ [((Value.slice B q.key.length D, q) : At)]).length = i + 1 ∧ (X ++ [((Value.slice B q.key.length D, q) : At)]).map (·.2) = L.take (i + 1)) := Lib.hid ⟨by rw [List.length_append, HX.out.1]; rfl, by rw [List.map_append, HX.out.2, HTK.out]; rfl⟩
      have HKZ : Hid (Keys w (X ++ [((Value.slice B q.key.length D, q) : At)])) := Lib.hid (fun p hp => by
        rcases List.mem_append.1 hp with hp | hp
        · exact HK.out p hp
        · simp only [List.mem_singleton] at hp
          subst hp
          exact ⟨HB.out, rfl⟩)
      clear hOz hGz hNz
      generalize X ++ [((Value.slice B q.key.length D, q) : At)] = X2 at *
      go_wp2
      go_roundg (N - (i + 1))
      case measure => omega
      case rel => exact ⟨i + 1, X2, Az, Cz, by simp, rfl, by omega, by omega, HXZ, HOZ, HKZ, HFZ⟩
    · obtain rfl : i = N := by omega
      have HTE : Hid (Tens wr (.slice Aa i Ca) L) := Lib.hid (by
        have h := tens_own (X := X) (by rw [HX.out.1]; exact HO.out) (HK.out.fr0 HF.out)
        rw [HX.out.2, List.take_of_length_le (by rw [HN.out]; exact Nat.le_refl _)] at h
        exact h)
      go_wp2
      go_ret
      exact ⟨_, rfl, HTE.out, HF.out⟩
end Go.Proofs.Ytjhnijcefpnldaa.TenantL
