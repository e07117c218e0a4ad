/-
  CrcSays: any bytes: as the document says: the walk.
-/
import Derived.Test.YtcdfflieooopjaaDoorCrcAwake
import Derived.Test.YtcdfflieooopjaaDoorCrcRef
namespace Go.Proofs.YtcdfflieooopjaaDoor.Crc
open Go.RowKit Base

set_option maxHeartbeats 2000000 in
set_option maxRecDepth 100000 in
theorem crcSays_walk (v0 v1 : Value) (a b : List UInt8) (ha : a.length ≤ 9223372036854775807) (hb : b.length ≤ 9223372036854775807) (c : Nat) (hc : c < 4294967296) (w : World) (hA : BytesIs w v0 a) (hB : BytesIs w v1 b) (hR : Rests w) :
    Calls Tryd.prog 13 #[v0, v1, .int .u32 (c : Int)] w fun e w' => e = .returned (.bool true) ∧ Fr0 w w' := by
  have HA := Lib.hid hA
  have HB := Lib.hid hB
  have HR := Lib.hid hR
  obtain ⟨a0, cap0, _, _, rfl, _⟩ := hA
  obtain ⟨a1, cap1, _, _, rfl, _⟩ := hB
  clear hR
  by_cases hbad : 2000 < a.length ∨ 2000 < b.length
  · have HD : Hid (2000 < a.length ∨ 2000 < b.length) := Lib.hid hbad
    clear hbad
    go_enter Tryd.func13, Tryd.ntmps13
    go_wp2_with fail
    refine (awake_any _ HR.out).mono ?_
    rintro e w1 ⟨rfl, hF1⟩
    have HF1 := Lib.hid hF1
    clear hF1
    by_cases h1 : 2000 < a.length
    · go_wp2
      go_ret
      exact ⟨rfl, HF1.out⟩
    · have h2 : 2000 < b.length := by have := HD.out; omega
      go_wp2
      go_ret
      exact ⟨rfl, HF1.out⟩
  · have h1 : ¬ 2000 < a.length := by omega
    have h2 : ¬ 2000 < b.length := by omega
    clear hbad
    go_enter Tryd.func13, Tryd.ntmps13
    go_wp2_with fail
    refine (awake_any _ HR.out).mono ?_
    rintro e w1 ⟨rfl, hF1⟩
    have HF1 := Lib.hid hF1
    clear hF1
    go_wp2_with (at_builtin; refine wpList_append_bytes rfl (.tmp 18) (.tmp 19) 30 rfl w1.heap.size 5 Tryd.underlying30 (by kernel_rfl) _ _ 0 [] a rfl rfl (owns_empty w1 w1.heap.size 5 (Nat.le_refl _) w1.heap.size rfl) (HA.out.fr0 (HF1.out.alloc _)) (by omega) (by simp) ?_)
    intro v4 w4 hown4 hgr4
    have HOWN4 : Hid (w4.ownsRow w1.heap.size 5 1 v4 a.length (bvals a)) := Lib.hid (by simpa using hown4)
    have HF4 : Hid (Fr0 w1 w4) := Lib.hid (Fr.grown (Fr.alloc (Fr.refl _ _) _) hgr4 (fun q hq e => by simp [Value.ownBlock] at e; omega))
    have hs4 := HF4.out.size
    clear hown4 hgr4
    go_wp2_with (at_builtin; refine wpList_append_bytes rfl (.tmp 20) (.tmp 21) 30 rfl w1.heap.size 5 Tryd.underlying30 (by kernel_rfl) _ _ a.length a b rfl rfl HOWN4.out (HB.out.fr0 (HF1.out.trans' HF4.out)) (by omega) (by omega) ?_)
    intro v5 w5 hown5 hgr5
    have HB5 : Hid (BytesIs w5 v5 (a ++ b)) := Lib.hid (BytesIs.own (n := (a ++ b).length) (by rw [List.length_append]; exact hown5))
    have HF5 : Hid (Fr0 w w5) := Lib.hid (HF1.out.trans' (Fr.grown HF4.out hgr5 (fun q hq e => by have := HOWN4.out.lt q e; omega)))
    clear hown5 hgr5
    go_wp2_with fail
    refine (refCrc_any 0 (by decide) _ (a ++ b) (by rw [List.length_append]; omega) w5 HB5.out).mono ?_
    rintro e w' ⟨rfl, rfl⟩
    have HR5 := Lib.hid (HR.out.fr HF5.out (fun f => f))
    go_wp2_with fail
    refine (of_any _ [a, b] _ (PartsIs.two w5 _ _ a b (HA.out.fr0 HF5.out) (HB.out.fr0 HF5.out) _ _ rfl) (HR5.out.fr (S := fun _ => False) ((Fr.refl _ _).alloc _) (fun f => f)) (by simp; exact ⟨ha, hb⟩)).mono ?_
    rintro e w' ⟨rfl, rfl⟩
    rw [show [a, b].flatten = a ++ b from by simp]
    have e1 : crc (crc 0 a) b = crc 0 (a ++ b) := (crc_append 0 a b).symm
    have E1 := Lib.hid e1
    clear e1
    have hx := crc_lt 0 (a ++ b) (by decide)
    generalize hX : crc 0 (a ++ b) = x at *
    have HX := Lib.hid hX
    clear hX
    go_wp2_with fail
    have HF6 : Hid (Fr0 w (w5.alloc (.cells #[.slice a0 a.length cap0, .slice a1 b.length cap1] 30))) := Lib.hid (HF5.out.alloc _)
    refine (of_any _ [a] _ (PartsIs.one (w5.alloc (.cells #[.slice a0 a.length cap0, .slice a1 b.length cap1] 30)) _ a (HA.out.fr0 HF6.out) _ _ (by simp)) (HR.out.fr (HF6.out.alloc _) (fun f => f)) (by simp; exact ha)).mono ?_
    rintro e w' ⟨rfl, rfl⟩
    rw [show [a].flatten = a from by simp]
    have HF7 : Hid (Fr0 w ((w5.alloc (.cells #[.slice a0 a.length cap0, .slice a1 b.length cap1] 30)).alloc (.cells #[.slice a0 a.length cap0] 30))) := Lib.hid (HF6.out.alloc _)
    go_wp2_with fail
    refine (on_any _ (crc_lt 0 a (by decide)) _ b hb _ (HB.out.fr0 HF7.out) (HR.out.fr HF7.out (fun f => f))).mono ?_
    rintro e w' ⟨rfl, rfl⟩
    rw [E1.out]
    go_wp2_with fail
    refine (on_any c hc _ b hb _ (HB.out.fr0 HF7.out) (HR.out.fr HF7.out (fun f => f))).mono ?_
    rintro e w' ⟨rfl, rfl⟩
    go_wp2_with fail
    refine (refCrc_any c hc _ b hb _ (HB.out.fr0 HF7.out)).mono ?_
    rintro e w' ⟨rfl, rfl⟩
    go_wp2
    go_ret
    exact ⟨rfl, HF7.out⟩
theorem crcSays_int (v0 v1 : Value) (a b : List UInt8) (ha : a.length ≤ 9223372036854775807) (hb : b.length ≤ 9223372036854775807) (n : Int) (hn : 0 ≤ n ∧ n ≤ 4294967295) (w : World) (hA : BytesIs w v0 a) (hB : BytesIs w v1 b) (hR : Rests w) :
    Calls Tryd.prog 13 #[v0, v1, .int .u32 n] w fun e w' => e = .returned (.bool true) ∧ Fr0 w w' := by
  obtain ⟨m, rfl⟩ := Int.eq_ofNat_of_zero_le hn.1
  exact crcSays_walk v0 v1 a b ha hb m (by omega) w hA hB hR
end Go.Proofs.YtcdfflieooopjaaDoor.Crc
