/-
  The walk of the reference's Frame.
-/
import Derived.Test.YtggdpmfghbnhcaaDoorFrameCalls
import Derived.Test.YtggdpmfghbnhcaaDoorRefUB
import Derived.Test.YtggdpmfghbnhcaaDoorCrcRef
namespace Go.Proofs.YtggdpmfghbnhcaaDoor.Frame
open Go.RowKit Base Pack Crc

set_option maxHeartbeats 1000000 in
theorem refFrame_any (v : Value) (p : List UInt8) (hp : p.length ≤ 9223372036854775807) (w : World) (hB : BytesIs w v p) :
    Calls Tryd.prog 15 #[v] w (PutPost p w) := by
  have HB := Lib.hid hB
  obtain ⟨a, c, rfl⟩ := hB.form
  clear hB
  by_cases h : 512 < p.length
  · have HO : Hid (putOut p = []) := Lib.hid (by unfold putOut; rw [if_pos h])
    have HE : Hid (putErr p = 9) := Lib.hid (by unfold putErr; rw [if_pos h])
    go_enter Tryd.func15, Tryd.ntmps15
    go_wp2
    go_ret2
    exact ⟨_, by rw [HE.out]; rfl, by rw [HO.out]; exact BytesIs.nil _, Fr.refl _ _⟩
  · have HO : Hid (putOut p = (be 2 p.length ++ p) ++ be 4 (crc 0 (be 2 p.length ++ p))) := Lib.hid (by unfold putOut frameOf; rw [if_neg h])
    have HE : Hid (putErr p = 0) := Lib.hid (by unfold putErr; rw [if_neg h])
    have hxl : (be 2 p.length ++ p).length ≤ 514 := by rw [List.length_append, be_length]; omega
    go_enter Tryd.func15, Tryd.ntmps15
    go_wp2_with fail
    refine (RefB.u_any _ [] p.length 2 (by omega) (by omega) (by simp) w (BytesIs.nil w)).mono ?_
    rintro e w1 ⟨v1, rfl, hO1, hF1⟩
    rw [List.nil_append, RefB.beb_be, be_length] at hO1
    have HO1 := Lib.hid hO1
    have HF1 := Lib.hid hF1
    clear hO1 hF1
    go_wp2_with (refine wpList_append_bytes rfl (.tmp 11) (.tmp 12) 23 rfl w.heap.size 5 Tryd.underlying23 info8 _ _ 2 (be 2 p.length) p rfl rfl HO1.out (HB.out.fr0 HF1.out) (by omega) HF1.out.size ?_; intro v2 w2 hO2 hG2)
    have HF2 : Hid (Fr0 w w2) := Lib.hid (HF1.out.grown hG2 (fun k hk e => by have := (HO1.out.lt k e).1; omega))
    have HB2 : Hid (BytesIs w2 v2 (be 2 p.length ++ p)) := Lib.hid (BytesIs.own hO2)
    obtain ⟨a2, n2, c2, rfl⟩ := HB2.out.slice
    clear hO2 hG2 HO1
    have hcl := crc_lt 0 (be 2 p.length ++ p) (by decide)
    generalize be 2 p.length ++ p = x at *
    go_wp2_with fail
    refine (refCrc_any 0 (by omega) _ x (by omega) w2 HB2.out).mono ?_
    rintro e w3 ⟨rfl, rfl⟩
    generalize hY : crc 0 x = y at *
    have HY := Lib.hid hY
    clear hY
    go_wp2_with fail
    refine (RefB.u_any _ x y 4 (by omega) (by omega) (by omega) w2 HB2.out).mono ?_
    rintro e w4 hU
    obtain ⟨v4, rfl, hB4, hF4, _⟩ := hU.bytes
    rw [RefB.beb_be] at hB4
    have HB4 := Lib.hid hB4
    have HF4 : Hid (Fr0 w w4) := Lib.hid (HF2.out.trans' hF4)
    clear hB4 hF4 hU
    go_wp2
    go_ret2
    exact ⟨_, by rw [HE.out]; rfl, by rw [HO.out]; exact HB4.out, HF4.out⟩
end Go.Proofs.YtggdpmfghbnhcaaDoor.Frame
