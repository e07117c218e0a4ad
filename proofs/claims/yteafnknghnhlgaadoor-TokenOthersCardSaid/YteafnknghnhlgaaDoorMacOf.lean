/-
  The walk of mac.Of.
-/
import Derived.Test.YteafnknghnhlgaaDoorMacKey
import Derived.Test.YteafnknghnhlgaaDoorRegion
import Derived.Test.YteafnknghnhlgaaDoorVals
import Derived.Test.YteafnknghnhlgaaDoorSumParts
namespace Go.Proofs.YteafnknghnhlgaaDoor.Mac
open Go.RowKit Base Sha

theorem mixed_lit (l : List UInt8) (hl : l.length = 64) (p : UInt8) (q : Int) (hq : q = (p.toNat : Int)) (A : Array Value) (hA : A = (bvals l).toArray) (B : Array Value) (hB : B = (bvals (xorB p l)).toArray) (w : World) :
    Calls Tryd.prog 26 #[.agg A, .int .u8 q] w fun e w' => e = .returned (.agg B) ∧ Fr0 w w' := by
  subst hq hA hB
  exact mixed_any l hl p w
/-- what holds when the operations L of the statement 'inner, outer := ..' have been carried out -/
def OfI (w2 : World) (KB IN OU Z : Array Value) (L : Nat → Bool) (s6 s7 x12 x13 x14 x15 : Value) (w' : World) : Prop :=
  Fr0 w2 w' ∧ (L 0 = true → x12 = .agg KB) ∧ (L 1 = true → x13 = .agg IN) ∧ (L 2 = true → x14 = .agg KB) ∧ (L 3 = true → x15 = .agg OU) ∧ ∃ g6 g7 : Nat,
    (L 4 = true → s6 = .pointer (some ⟨g6, 0, none⟩) ∧ w2.heap.size ≤ g6 ∧ w'.heap[g6]? = some (.cells (if L 6 = true then IN else Z) 50 (0, 0))) ∧
    (L 5 = true → s7 = .pointer (some ⟨g7, 0, none⟩) ∧ w2.heap.size ≤ g7 ∧ w'.heap[g7]? = some (.cells (if L 7 = true then OU else Z) 50 (0, 0))) ∧
    (L 4 = true → L 5 = true → g6 ≠ g7)
theorem OfI.start (w2 w' : World) (KB IN OU Z : Array Value) (s6 s7 x12 x13 x14 x15 : Value) (h : Fr0 w2 w') : OfI w2 KB IN OU Z (fun _ => false) s6 s7 x12 x13 x14 x15 w' :=
  ⟨h, fun f => (by cases f), fun f => (by cases f), fun f => (by cases f), fun f => (by cases f), 0, 0, fun f => (by cases f), fun f => (by cases f), fun f => (by cases f)⟩
section
variable {w2 w' w'' : World} {KB IN OU Z : Array Value} {L : Nat → Bool} {s6 s7 x12 x13 x14 x15 : Value}
theorem OfI.fr (h : OfI w2 KB IN OU Z L s6 s7 x12 x13 x14 x15 w') (hF : Fr0 w' w'') : OfI w2 KB IN OU Z L s6 s7 x12 x13 x14 x15 w'' := by
  obtain ⟨h0, h1, h2, h3, h4, g6, g7, h5, h6, h7⟩ := h
  exact ⟨h0.trans' hF, h1, h2, h3, h4, g6, g7, fun f => let ⟨a, b, c⟩ := h5 f; ⟨a, b, hF.heap c (fun f => f)⟩, fun f => let ⟨a, b, c⟩ := h6 f; ⟨a, b, hF.heap c (fun f => f)⟩, h7⟩
theorem OfI.t0 (h : OfI w2 KB IN OU Z L s6 s7 x12 x13 x14 x15 w') : OfI w2 KB IN OU Z (opDone L 0) s6 s7 (.agg KB) x13 x14 x15 w' := by
  obtain ⟨h0, h1, h2, h3, h4, h5⟩ := h
  exact ⟨h0, fun _ => rfl, h2, h3, h4, h5⟩
theorem OfI.t1 (h : OfI w2 KB IN OU Z L s6 s7 x12 x13 x14 x15 w') : OfI w2 KB IN OU Z (opDone L 1) s6 s7 x12 (.agg IN) x14 x15 w' := by
  obtain ⟨h0, h1, h2, h3, h4, h5⟩ := h
  exact ⟨h0, h1, fun _ => rfl, h3, h4, h5⟩
theorem OfI.t2 (h : OfI w2 KB IN OU Z L s6 s7 x12 x13 x14 x15 w') : OfI w2 KB IN OU Z (opDone L 2) s6 s7 x12 x13 (.agg KB) x15 w' := by
  obtain ⟨h0, h1, h2, h3, h4, h5⟩ := h
  exact ⟨h0, h1, h2, fun _ => rfl, h4, h5⟩
theorem OfI.t3 (h : OfI w2 KB IN OU Z L s6 s7 x12 x13 x14 x15 w') : OfI w2 KB IN OU Z (opDone L 3) s6 s7 x12 x13 x14 (.agg OU) w' := by
  obtain ⟨h0, h1, h2, h3, h4, h5⟩ := h
  exact ⟨h0, h1, h2, h3, fun _ => rfl, h5⟩
theorem OfI.t4 (hL : L 6 = false) (h : OfI w2 KB IN OU Z L s6 s7 x12 x13 x14 x15 w') : OfI w2 KB IN OU Z (opDone L 4) (.pointer (some ⟨w'.heap.size, 0, none⟩)) s7 x12 x13 x14 x15 (w'.alloc (.cells Z 50)) := by
  obtain ⟨h0, h1, h2, h3, h4, g6, g7, h5, h6, h7⟩ := h
  refine ⟨h0.alloc _, h1, h2, h3, h4, w'.heap.size, g7, fun _ => ⟨rfl, h0.size, ?_⟩, fun f => let ⟨a, b, c⟩ := h6 f; ⟨a, b, (Fr.alloc (Fr.refl (fun _ => False) _) _).heap c (fun f => f)⟩, fun _ f => ?_⟩
  · rw [show opDone L 4 6 = L 6 from rfl, hL]; exact heap_alloc_new w' _
  · have := lt_of_heap (h6 f).2.2
    omega
theorem OfI.t5 (hL : L 7 = false) (h : OfI w2 KB IN OU Z L s6 s7 x12 x13 x14 x15 w') : OfI w2 KB IN OU Z (opDone L 5) s6 (.pointer (some ⟨w'.heap.size, 0, none⟩)) x12 x13 x14 x15 (w'.alloc (.cells Z 50)) := by
  obtain ⟨h0, h1, h2, h3, h4, g6, g7, h5, h6, h7⟩ := h
  refine ⟨h0.alloc _, h1, h2, h3, h4, g6, w'.heap.size, fun f => let ⟨a, b, c⟩ := h5 f; ⟨a, b, (Fr.alloc (Fr.refl (fun _ => False) _) _).heap c (fun f => f)⟩, fun _ => ⟨rfl, h0.size, ?_⟩, fun f _ => ?_⟩
  · rw [show opDone L 5 7 = L 7 from rfl, hL]; exact heap_alloc_new w' _
  · have := lt_of_heap (h5 f).2.2
    omega
theorem OfI.t6 {g6 g7 : Nat} (h0 : Fr0 w2 w') (h1 : x12 = .agg KB) (h2 : x13 = .agg IN) (h3 : x14 = .agg KB) (h4 : x15 = .agg OU) (a5 : s6 = .pointer (some ⟨g6, 0, none⟩)) (b5 : w2.heap.size ≤ g6) (c5 : w'.heap[g6]? = some (.cells Z 50 (0, 0)))
    (h6 : s7 = .pointer (some ⟨g7, 0, none⟩) ∧ w2.heap.size ≤ g7 ∧ w'.heap[g7]? = some (.cells (if L 7 = true then OU else Z) 50 (0, 0))) (h7 : g6 ≠ g7) :
    OfI w2 KB IN OU Z (opDone L 6) s6 s7 x12 x13 x14 x15 (w'.setRow g6 IN) := by
  refine ⟨h0.setRow (fun h => by omega) _, fun _ => h1, fun _ => h2, fun _ => h3, fun _ => h4, g6, g7, fun _ => ⟨a5, b5, ?_⟩, fun _ => ⟨h6.1, h6.2.1, ?_⟩, fun _ _ => h7⟩
  · rw [show opDone L 6 6 = true from rfl, if_pos rfl]; exact setRow_heap _ _ _ _ _ _ c5
  · rw [setRow_other _ _ _ _ (Ne.symm h7)]; exact h6.2.2
theorem OfI.t7 {g6 g7 : Nat} (h0 : Fr0 w2 w') (h1 : x12 = .agg KB) (h2 : x13 = .agg IN) (h3 : x14 = .agg KB) (h4 : x15 = .agg OU) (a5 : s7 = .pointer (some ⟨g7, 0, none⟩)) (b5 : w2.heap.size ≤ g7) (c5 : w'.heap[g7]? = some (.cells Z 50 (0, 0)))
    (h6 : s6 = .pointer (some ⟨g6, 0, none⟩) ∧ w2.heap.size ≤ g6 ∧ w'.heap[g6]? = some (.cells (if L 6 = true then IN else Z) 50 (0, 0))) (h7 : g6 ≠ g7) :
    OfI w2 KB IN OU Z (opDone L 7) s6 s7 x12 x13 x14 x15 (w'.setRow g7 OU) := by
  refine ⟨h0.setRow (fun h => by omega) _, fun _ => h1, fun _ => h2, fun _ => h3, fun _ => h4, g6, g7, fun _ => ⟨h6.1, h6.2.1, ?_⟩, fun _ => ⟨a5, b5, ?_⟩, fun _ _ => h7⟩
  · rw [setRow_other _ _ _ _ h7]; exact h6.2.2
  · rw [show opDone L 7 7 = true from rfl, if_pos rfl]; exact setRow_heap _ _ _ _ _ _ c5
end
/-- what holds when the operations L of the last statement have been carried out -/
def OfJ (w6 : World) (N : Nat) (y22 y23 : Value) (l0 l1 : List UInt8) (R Z : Array Value) (L : Nat → Bool) (x22 x23 x24 x25 : Value) (w' : World) : Prop :=
  Fr1 N w6 w' ∧ (L 0 = true → x22 = y22) ∧ (L 1 = true → x23 = y23) ∧ (L 2 = true → L 4 = false → PartsIs w' x24 [l0, l1]) ∧ (L 3 = true → x25 = .agg R) ∧ w'.heap[N]? = some (.cells (if L 4 = true then R else Z) 38 (0, 0)) ∧ (L 4 = false → Fr0 w6 w')
set_option maxHeartbeats 1000000 in
set_option maxRecDepth 100000 in
theorem macOf_any (v v2 : Value) (k : List UInt8) (ps : List (List UInt8)) (hk : k.length ≤ 1048576) (hp : ps.length ≤ 1048576) (hm : ps.flatten.length ≤ 1099511627776) (w : World) (hB : BytesIs w v k) (hP : PartsIs w v2 ps) (hK : Rounds w) (hg : 0 < w.heap.size) :
    Calls Tryd.prog 16 #[v, v2] w fun e w' => e = .returned (.agg (bvals (hmac k ps.flatten)).toArray) ∧ Fr0 w w' := by
  have HB := Lib.hid hB
  have HP := Lib.hid hP
  have HK := Lib.hid hK
  obtain ⟨sa, sn, sc, rfl⟩ := hB.slice
  obtain ⟨sa2, sc2, _, _, rfl, _⟩ := hP
  clear hB hK
  have hz := (zero_of_info (P := Tryd.prog) zero64i).1
  have hz2 := (zero_of_info (P := Tryd.prog) zero24).1
  generalize hZD : (Array.replicate 32 (Value.int .u8 0)) = ZD at hz2
  generalize hZ : (Array.replicate 64 (Value.int .u8 0)) = Z at hz
  have HZD : Hid (ZD.size = 32) := Lib.hid (by rw [← hZD]; simp)
  have HZS : Hid (Z.size = 64) := Lib.hid (by rw [← hZ]; simp)
  clear hZD hZ
  go_enter Tryd.func16, Tryd.ntmps16
  go_wp2_with fail
  refine (key_any _ k hk _ (HB.out.fr0 ((Fr.refl _ _).alloc _)) (HK.out.fr (S := fun _ => False) ((Fr.refl _ _).alloc _) (fun f => f)) (by simp; try omega)).mono ?_
  rintro e w1 ⟨rfl, hF1⟩
  have HF1 : Hid (Fr0 w w1) := Lib.hid (Fr.trans' ((Fr.refl _ _).alloc _) hF1)
  have HS1 : Hid (w1.heap[w.heap.size]? = some (.cells ZD 38 (0, 0))) := Lib.hid (hF1.heap (heap_alloc_new w _) (fun f => f))
  have hs1 := lt_of_heap HS1.out
  have HKI := Lib.hid (barr_info (keyBlk k) (keyBlk_len k))
  have HK1 := Lib.hid (barr_one (keyBlk k))
  have HKS : Hid (Z.size = (bvals (keyBlk k)).toArray.size) := Lib.hid (by rw [HZS.out]; simp [bvals_length, keyBlk_len])
  obtain ⟨KB, hKB⟩ : ∃ KB, KB = (bvals (keyBlk k)).toArray := ⟨_, rfl⟩
  rw [← hKB] at HKI HK1 HKS ⊢
  have HKB := Lib.hid hKB
  clear hF1 hKB
  go_wp2_with (first | (refine wpList_store_new rfl 50 _ _ rfl w1.heap.size rfl KB rfl rfl 50 _ HKI.out HKS.out HK1.out ?_))
  go_name_world w2 hw2
  have HF2 : Hid (Fr0 w1 w2) := Lib.hid (by rw [← hw2]; exact (Fr.refl _ _).alloc _)
  have HD2 : Hid (w2.heap[w1.heap.size]? = some (.cells KB 50 (0, 0))) := Lib.hid (by rw [← hw2]; exact heap_alloc_new w1 _)
  clear hw2
  obtain ⟨IN, hIN⟩ : ∃ IN, IN = (bvals (xorB 54 (keyBlk k))).toArray := ⟨_, rfl⟩
  obtain ⟨OU, hOU⟩ : ∃ OU, OU = (bvals (xorB 92 (keyBlk k))).toArray := ⟨_, rfl⟩
  have HIN := Lib.hid hIN
  have HOU := Lib.hid hOU
  have HINi : Hid ((Tryd.prog.info? 50).map (·.size) = some IN.size) := Lib.hid (by rw [hIN]; exact barr_info _ (by rw [xorB_len, keyBlk_len]))
  have HOUi : Hid ((Tryd.prog.info? 50).map (·.size) = some OU.size) := Lib.hid (by rw [hOU]; exact barr_info _ (by rw [xorB_len, keyBlk_len]))
  have HINs : Hid (Z.size = IN.size) := Lib.hid (by rw [HZS.out, hIN]; simp [bvals_length, xorB_len, keyBlk_len])
  have HOUs : Hid (Z.size = OU.size) := Lib.hid (by rw [HZS.out, hOU]; simp [bvals_length, xorB_len, keyBlk_len])
  have HIN1 : Hid (IN.all (·.oneCell') = true) := Lib.hid (by rw [hIN]; exact barr_one _)
  have HOU1 : Hid (OU.all (·.oneCell') = true) := Lib.hid (by rw [hOU]; exact barr_one _)
  clear hIN hOU
  refine region_steps (l := [_, _, _, _, _, _, _, _]) (fun L a' w' => ∃ s6 s7 x12 x13 x14 x15, OfI w2 KB IN OU Z L s6 s7 x12 x13 x14 x15 w' ∧ a' = ⟨#[.slice sa sn sc, .slice sa2 ps.length sc2, undef, undef,
            .pointer (some { block := w.heap.size, off := 0 }), .pointer (some { block := w1.heap.size, off := 0 }), s6, s7, undef, undef, .slice sa sn sc, .agg KB, x12, x13, x14, x15, undef, undef, undef, undef, undef, undef, undef, undef, undef, undef], []⟩) (by kernel_rfl) (by kernel_rfl) ⟨undef, undef, undef, undef, undef, undef, OfI.start _ _ _ _ _ _ _ _ _ _ _ _ ((Fr.refl _ _).drew), rfl⟩ ?_ ?_
  · refine ⟨?_, ?_, ?_, ?_, ?_, ?_, ?_, ?_, trivial⟩ <;> rintro L _ w' hLi hcl hdep ⟨s6, s7, x12, x13, x14, x15, hI, rfl⟩ K hK
    · exact step_load_row rfl 50 _ rfl w1.heap.size rfl 50 KB (0, 0) _ (hI.1.heap HD2.out (fun f => f)) Tryd.underlying50 rfl HKI.out (hK _ _ ⟨_, _, _, _, _, _, hI.t0, rfl⟩)
    · obtain rfl := hI.2.1 (hdep 0 (by decide))
      exact step_call rfl 26 #[.agg KB, .int .u8 54] (by go_simp) (.agg IN) _ (mixed_lit (keyBlk k) (keyBlk_len k) 54 54 rfl KB HKB.out IN HIN.out w') (fun w3 hF => hK _ _ ⟨_, _, _, _, _, _, (hI.fr hF).t1, rfl⟩)
    · exact step_load_row rfl 50 _ rfl w1.heap.size rfl 50 KB (0, 0) _ (hI.1.heap HD2.out (fun f => f)) Tryd.underlying50 rfl HKI.out (hK _ _ ⟨_, _, _, _, _, _, hI.t2, rfl⟩)
    · obtain rfl := hI.2.2.2.1 (hdep 2 (by decide))
      exact step_call rfl 26 #[.agg KB, .int .u8 92] (by go_simp) (.agg OU) _ (mixed_lit (keyBlk k) (keyBlk_len k) 92 92 rfl KB HKB.out OU HOU.out w') (fun w3 hF => hK _ _ ⟨_, _, _, _, _, _, (hI.fr hF).t3, rfl⟩)
    · have h6 : L 6 = false := by
        cases h : L 6 with
        | false => rfl
        | true => exact absurd ((hcl 6 _ rfl h 4 (by decide)).symm.trans hLi) (by simp)
      exact step_alloc rfl 50 rfl (.agg Z) hz (hK _ _ ⟨_, _, _, _, _, _, hI.t4 h6, rfl⟩)
    · have h7 : L 7 = false := by
        cases h : L 7 with
        | false => rfl
        | true => exact absurd ((hcl 7 _ rfl h 5 (by decide)).symm.trans hLi) (by simp)
      exact step_alloc rfl 50 rfl (.agg Z) hz (hK _ _ ⟨_, _, _, _, _, _, hI.t5 h7, rfl⟩)
    · obtain ⟨h0, h1, h2, h3, h4, g6, g7, h5, h6, h7⟩ := hI
      have d3 : L 3 = true := hdep 3 (by decide)
      have d : ∀ j, j < 6 → L j = true := fun j hj => by
        match j, hj with
        | 2, _ => exact hcl 3 _ rfl d3 2 (by decide)
        | 0, _ | 1, _ | 3, _ | 4, _ | 5, _ => exact hdep _ (by decide)
      obtain ⟨rfl, b5, c5⟩ := h5 (d 4 (by decide))
      rw [hLi, if_neg (by decide)] at c5
      obtain rfl := h2 (d 1 (by decide))
      exact step_store_row rfl 50 _ _ rfl g6 IN rfl rfl 50 Z c5 HINi.out HINs.out HIN1.out (hK _ _ ⟨_, _, _, _, _, _, OfI.t6 h0 (h1 (d 0 (by decide))) rfl (h3 (d 2 (by decide))) (h4 (d 3 (by decide))) rfl b5 c5 (h6 (d 5 (by decide))) (h7 (d 4 (by decide)) (d 5 (by decide))), rfl⟩)
    · obtain ⟨h0, h1, h2, h3, h4, g6, g7, h5, h6, h7⟩ := hI
      have d : ∀ j, j < 7 → L j = true := fun j hj => hdep j (by
        match j, hj with
        | 0, _ | 1, _ | 2, _ | 3, _ | 4, _ | 5, _ | 6, _ => decide)
      obtain ⟨rfl, b5, c5⟩ := h6 (d 5 (by decide))
      rw [hLi, if_neg (by decide)] at c5
      obtain rfl := h4 (d 3 (by decide))
      exact step_store_row rfl 50 _ _ rfl g7 OU rfl rfl 50 Z c5 HOUi.out HOUs.out HOU1.out (hK _ _ ⟨_, _, _, _, _, _, OfI.t7 h0 (h1 (d 0 (by decide))) (h2 (d 1 (by decide))) (h3 (d 2 (by decide))) rfl rfl b5 c5 (h5 (d 4 (by decide))) (h7 (d 4 (by decide)) (d 5 (by decide))), rfl⟩)
  · rintro L _ w3 hall ⟨s6, s7, x12, x13, x14, x15, ⟨h0, h1, h2, h3, h4, g6, g7, h5, h6, h7⟩, rfl⟩
    have d : ∀ j, j < 8 → L j = true := fun j hj => hall j hj
    obtain ⟨rfl, b5, c5⟩ := h5 (d 4 (by decide))
    obtain ⟨rfl, b6, c6⟩ := h6 (d 5 (by decide))
    rw [d 6 (by decide), if_pos rfl] at c5
    rw [d 7 (by decide), if_pos rfl] at c6
    have hne := h7 (d 4 (by decide)) (d 5 (by decide))
    obtain rfl := h1 (d 0 (by decide))
    obtain rfl := h2 (d 1 (by decide))
    obtain rfl := h3 (d 2 (by decide))
    obtain rfl := h4 (d 3 (by decide))
    have H0 := Lib.hid h0
    have HC5 := Lib.hid c5
    have HC6 := Lib.hid c6
    clear h0 h1 h2 h3 h4 h5 h6 h7 d c5 c6 hall
    obtain ⟨vs, hvl, hV, hVB⟩ := HP.out.vals
    have HV := Lib.hid hV
    have HVB := Lib.hid hVB
    have HVL := Lib.hid hvl
    have hV1 : ∀ u ∈ vs, u.oneCell' = true := fun u hu => by
      obtain ⟨j, hj, rfl⟩ := List.mem_iff_getElem.1 hu
      obtain ⟨a, n, c, h⟩ := (hVB j hj).slice
      rw [List.getD_eq_getElem?_getD, List.getElem?_eq_getElem hj] at h
      simp only [Option.getD_some] at h
      rw [h]; rfl
    have HV1 := Lib.hid hV1
    have HF3 : Hid (Fr0 w w3) := Lib.hid ((HF1.out.trans' HF2.out).trans' H0.out)
    have hsz3 := HF3.out.size
    have HS3 : Hid (w3.heap[w.heap.size]? = some (.cells ZD 38 (0, 0))) := Lib.hid ((HF2.out.trans' H0.out).heap HS1.out (fun f => f))
    have hb6 : w.heap.size < g6 := by have := (HF2.out.size); omega
    have hb7 : w.heap.size < g7 := by have := (HF2.out.size); omega
    clear hV hVB hvl hV1
    go_wp2_with (at_builtin; refine wpList_append_vals rfl (.tmp 17) (.tmp 18) 49 rfl w.heap.size 23 Tryd.underlying49 (.slice none 0 0) 1 24 info30 rfl (by decide) _ _ 1 ps.length _ vs rfl rfl (owns_lit w3 w.heap.size 23 _ 1 rfl (by unfold maxLen; omega) hsz3 _ rfl) (HV.out.fr0 (HF3.out.alloc _)) (by rw [HVL.out, Nat.mul_one]) HV1.out (by unfold maxLen; omega) (by omega) (by simp; omega) ?_)
    intro v4 w4 hown4 hgr4
    have hgw : Fr (fun k => k = w3.heap.size) w3 w4 := Fr.grown ((Fr.refl _ _).alloc _) hgr4 (fun q hq e => by
      simp [Value.ownBlock] at e; exact e.symm)
    have hF4 : Fr0 w w4 := HF3.out.trans hgw (fun i hi e => by omega)
    have HF4 := Lib.hid hF4
    have hb3 : ∀ g o, w3.heap[g]? = some o → w4.heap[g]? = some o := fun g o h => hgw.heap h (by have := lt_of_heap h; omega)
    have HS4 := Lib.hid (hb3 _ _ HS3.out)
    have HC5' : Hid (w4.heap[g6]? = some (.cells (bvals (xorB 54 (keyBlk k))).toArray 50 (0, 0))) := Lib.hid (by rw [← HIN.out]; exact hb3 _ _ HC5.out)
    have HC6' : Hid (w4.heap[g7]? = some (.cells (bvals (xorB 92 (keyBlk k))).toArray 50 (0, 0))) := Lib.hid (by rw [← HOU.out]; exact hb3 _ _ HC6.out)
    have hl54 : 64 = (xorB 54 (keyBlk k)).length := by rw [xorB_len, keyBlk_len]
    have hl92 : 64 = (xorB 92 (keyBlk k)).length := by rw [xorB_len, keyBlk_len]
    have hP4 : PartsIs w4 v4 (xorB 54 (keyBlk k) :: ps) := by
      refine PartsIs.own hown4 (by simp [HVL.out]) (by simp; omega) (fun j hj => ?_)
      cases j with
      | zero => exact BytesIs.block HC5'.out 64 64 hl54 (Nat.le_refl _)
      | succ j => exact (HVB.out j (by simpa using hj)).fr0 HF4.out
    have HP4 := Lib.hid hP4
    have HL4 : Hid ((xorB 54 (keyBlk k) :: ps).flatten.length ≤ 576460752303423488) := Lib.hid (by rw [List.flatten_cons, List.length_append, ← hl54]; omega)
    have hsz4 := hF4.size
    have hg4 : 0 < w4.heap.size := by omega
    have HL92 := Lib.hid hl92
    clear hown4 hgr4 hgw hF4 hb3 hP4 HS3 HC5 HC6 hl54 hl92
    go_wp2_with fail
    refine (of_any _ _ _ HP4.out (HK.out.fr HF4.out (fun f => f)) hg4 HL4.out).mono ?_
    rintro e w5 ⟨rfl, hF5⟩
    have HF5 := Lib.hid hF5
    have HD1 : Hid (digest (xorB 54 (keyBlk k) :: ps).flatten = digest (xorB 54 (keyBlk k) ++ ps.flatten)) := Lib.hid (by rw [List.flatten_cons])
    have HDA : Hid (digArr (xorB 54 (keyBlk k) :: ps).flatten = (bvals (digest (xorB 54 (keyBlk k) ++ ps.flatten))).toArray) := Lib.hid (by rw [List.flatten_cons]; rfl)
    have HDI := Lib.hid (digArr_info (xorB 54 (keyBlk k) :: ps).flatten)
    have HDS : Hid (ZD.size = (digArr (xorB 54 (keyBlk k) :: ps).flatten).size) := Lib.hid (by rw [HZD.out, digArr_size])
    have HD1' := Lib.hid (digArr_one (xorB 54 (keyBlk k) :: ps).flatten)
    generalize digArr (xorB 54 (keyBlk k) :: ps).flatten = DA at *
    clear hF5
    go_wp2_with (first | (refine wpList_store_new rfl 38 _ _ rfl w5.heap.size rfl DA rfl rfl 38 _ HDI.out HDS.out HD1'.out ?_))
    have HB6 : Hid (BytesIs (w5.alloc (.cells DA 38)) (.slice (some ⟨w5.heap.size, 0, none⟩) 32 32) (digest (xorB 54 (keyBlk k) ++ ps.flatten))) := Lib.hid (BytesIs.block (t := 38) (fr := (0, 0)) (by rw [← HDA.out]; exact heap_alloc_new w5 _) 32 32 (by rw [digest_len]) (Nat.le_refl _))
    have HB7 : Hid (BytesIs (w5.alloc (.cells DA 38)) (.slice (some ⟨g7, 0, none⟩) 64 64) (xorB 92 (keyBlk k))) := Lib.hid ((BytesIs.block HC6'.out 64 64 HL92.out (Nat.le_refl _)).fr0 (HF5.out.alloc _))
    have HF6 : Hid (Fr0 w (w5.alloc (.cells DA 38))) := Lib.hid ((HF4.out.trans' HF5.out).alloc _)
    have HS6 : Hid ((w5.alloc (.cells DA 38)).heap[w.heap.size]? = some (.cells ZD 38 (0, 0))) := Lib.hid ((HF5.out.alloc _).heap HS4.out (fun f => f))
    go_name_world w6 hw6
    have hs6 : w6.heap.size = w5.heap.size + 1 := by rw [← hw6]; simp
    rw [hw6] at HB6 HB7 HF6 HS6
    clear hw6 HS4 HC5' HC6' HP4 HF5 HF4
    have HRI : Hid ((Tryd.prog.info? 38).map (·.size) = some (bvals (hmac k ps.flatten)).toArray.size) := Lib.hid (digArr_info _)
    have HRS : Hid (ZD.size = (bvals (hmac k ps.flatten)).toArray.size) := Lib.hid (by rw [HZD.out]; simp [bvals_length, hmac_len])
    have HR1 : Hid ((bvals (hmac k ps.flatten)).toArray.all (·.oneCell') = true) := Lib.hid (barr_one _)
    have HL6 : Hid ([xorB 92 (keyBlk k), digest (xorB 54 (keyBlk k) ++ ps.flatten)].flatten.length ≤ 576460752303423488) := Lib.hid (by simp [xorB_len, keyBlk_len, digest_len])
    have HRE : Hid (digArr [xorB 92 (keyBlk k), digest (xorB 54 (keyBlk k) ++ ps.flatten)].flatten = (bvals (hmac k ps.flatten)).toArray) := Lib.hid (by unfold hmac; simp [digArr, bvals, Sha.bytes])
    have hg6 : 0 < w6.heap.size := by omega
    generalize hRG : (bvals (hmac k ps.flatten)).toArray = R at *
    have HRG := Lib.hid hRG
    clear hRG
    refine region_steps (l := [_, _, _, _, _]) (fun L a' w' => ∃ x22 x23 x24 x25, OfJ w6 w.heap.size (.slice (some ⟨g7, 0, none⟩) 64 64) (.slice (some ⟨w5.heap.size, 0, none⟩) 32 32) (xorB 92 (keyBlk k)) (digest (xorB 54 (keyBlk k) ++ ps.flatten)) R ZD L x22 x23 x24 x25 w' ∧ a' = ⟨#[_, _, _, _, _, _, _, _, _, _, _, _, _, _, _, _, _, _, _, _, _, _, x22, x23, x24, x25], []⟩) (by kernel_rfl) (by kernel_rfl)
      ⟨undef, undef, undef, undef, ⟨(Fr.refl _ _).drew, fun f => (by cases f), fun f => (by cases f), fun f => (by cases f), fun f => (by cases f), HS6.out, fun _ => (Fr.refl _ _).drew⟩, rfl⟩ ?_ ?_
    · refine ⟨?_, ?_, ?_, ?_, ?_, trivial⟩ <;> rintro L _ w' hLi hcl hdep ⟨x22, x23, x24, x25, ⟨h0, h1, h2, h3, h4, h5, h6⟩, rfl⟩ K hK
      · exact step_value rfl (.slice (some ⟨g7, 0, none⟩) 64 64) w' (by go_simp) (hK _ _ ⟨_, _, _, _, ⟨h0, fun _ => rfl, h2, h3, h4, h5, h6⟩, rfl⟩)
      · exact step_value rfl (.slice (some ⟨w5.heap.size, 0, none⟩) 32 32) w' (by go_simp) (hK _ _ ⟨_, _, _, _, ⟨h0, h1, fun _ => rfl, h3, h4, h5, h6⟩, rfl⟩)
      · obtain rfl := h1 (hdep 0 (by decide))
        obtain rfl := h2 (hdep 1 (by decide))
        have h4f : L 4 = false := by
          cases h : L 4 with
          | false => rfl
          | true => exact absurd ((hcl 4 _ rfl h 2 (by decide)).symm.trans hLi) (by simp)
        exact step_value rfl (.slice (some ⟨w'.heap.size, 0, none⟩) 2 2) (w'.alloc (.cells #[.slice (some ⟨g7, 0, none⟩) 64 64, .slice (some ⟨w5.heap.size, 0, none⟩) 32 32] 23)) (by go_simp) (hK _ _ ⟨_, _, _, _, ⟨h0.alloc _, h1, h2, fun _ _ => PartsIs.two w' _ _ _ _ (HB7.out.fr0 (h6 h4f)) (HB6.out.fr0 (h6 h4f)) _ _ rfl, h4, (Fr.alloc (Fr.refl (fun _ => False) _) _).heap h5 (fun f => f), fun f => (h6 f).alloc _⟩, rfl⟩)
      · have h4f : L 4 = false := by
          cases h : L 4 with
          | false => rfl
          | true => exact absurd ((hcl 4 _ rfl h 3 (by decide)).symm.trans hLi) (by simp)
        have hP := h3 (hdep 2 (by decide)) h4f
        have hF := h6 h4f
        have hc := of_any _ _ w' hP (HK.out.fr (HF6.out.trans' hF) (fun f => f)) (Nat.lt_of_lt_of_le hg6 hF.size) HL6.out
        rw [HRE.out] at hc
        exact step_call rfl 27 #[x24] (by go_simp) (.agg R) _ hc (fun w7 hF7 => hK _ _ ⟨_, _, _, _, ⟨h0.trans' (hF7.zero), h1, h2, fun a b => (h3 a b).fr0 hF7, fun _ => rfl, hF7.heap h5 (fun f => f), fun f => (h6 f).trans' hF7⟩, rfl⟩)
      · obtain rfl := h4 (hdep 3 (by decide))
        rw [hLi, if_neg (by decide)] at h5
        exact step_store_row rfl 38 _ _ rfl w.heap.size R rfl rfl 38 ZD h5 HRI.out HRS.out HR1.out (hK _ _ ⟨_, _, _, _, ⟨h0.setRow (fun _ => rfl) _, h1, h2, fun _ f => (by cases f), fun _ => rfl, setRow_heap _ _ _ _ _ _ h5, fun f => (by cases f)⟩, rfl⟩)
    · rintro L _ w7 hall ⟨x22, x23, x24, x25, ⟨h0, h1, h2, h3, h4, h5, h6⟩, rfl⟩
      rw [hall 4 (by decide), if_pos rfl] at h5
      have HR := Lib.hid h5
      have HF7 : Hid (Fr0 w w7) := Lib.hid (HF6.out.trans h0 (fun i hi e => by have e' : i = w.heap.size := e; omega))
      clear h0 h1 h2 h3 h4 h5 h6 hall
      go_wp2_with fail
      exact bodyPost_ret (v := .agg R) (results_cell_row (fn := Tryd.f16) rfl _ _ w.heap.size 38 R (0, 0) _ rfl HR.out Tryd.underlying38 rfl HRI.out) rfl ⟨by rw [HRG.out], HF7.out⟩
end Go.Proofs.YteafnknghnhlgaaDoor.Mac
