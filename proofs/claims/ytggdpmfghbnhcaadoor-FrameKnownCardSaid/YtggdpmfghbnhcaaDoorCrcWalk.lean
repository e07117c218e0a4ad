/-
  crc.On and crc.Of: their walks.
-/
import Derived.Test.YtggdpmfghbnhcaaDoorProg
import Derived.Test.YtggdpmfghbnhcaaDoorCrcSpec
import Derived.Test.YtggdpmfghbnhcaaDoorVals
import Derived.Laws.BitsAllLaws
namespace Go.Proofs.YtggdpmfghbnhcaaDoor.Crc
open Go.RowKit Base

/-- the table of the rests lies there -/
def Rests (w : World) : Prop := ∀ i, i < 16 → w.cell? ⟨0, i, none⟩ = some (.int .u32 ((restL.getD i 0 : Nat) : Int))
theorem Rests.fr {S : Nat → Prop} {w w' : World} (h : Rests w) (hf : Fr S w w') (hs : ¬ S 0) : Rests w' := fun i hi => by
  have := h i hi
  rw [hf.cell (p := ⟨0, i, none⟩) (World.block_lt_of_cell? w _ this) hs]; exact this
theorem Rests.lt {w : World} (h : Rests w) : 0 < w.heap.size := World.block_lt_of_cell? w _ (h 0 (by decide))
theorem turn_u32 (c : Nat) (h : c < 4294967296) : bits .xor .u32 IntKind.u32.max (c : Int) = ((c ^^^ ones : Nat) : Int) := by
  have := u32_xor_nat ones c (by decide) h
  rw [Nat.xor_comm] at this
  exact this
theorem low4 (c : Nat) (h : c < 4294967296) : bits .and .u32 (c : Int) 15 = ((c % 16 : Nat) : Int) := by
  have := u32_and_nat c 15 h (by decide)
  rw [show ((15 : Nat) : Int) = 15 from rfl] at this
  rw [this]
  congr 1
  exact Nat.and_two_pow_sub_one_eq_mod c 4
theorem rest_lt (i : Nat) (h : i < 16) : restL.getD i 0 < 4294967296 := by
  have : ∀ k : Fin 16, restL.getD k.val 0 < 4294967296 := by decide +kernel
  exact this ⟨i, h⟩
theorem nib_u32 (c : Nat) (h : c < 4294967296) : bits .xor .u32 ((c : Int) / 16) ((restL.getD (c % 16) 0 : Nat) : Int) = ((steps 4 c : Nat) : Int) := by
  have := u32_xor_nat (c / 16) (restL.getD (c % 16) 0) (by omega) (rest_lt _ (by omega))
  rw [nib, ← this]; rfl
set_option maxHeartbeats 1000000 in
theorem on_any (c : Nat) (hc : c < 4294967296) (v : Value) (l : List UInt8) (hl : l.length ≤ 9223372036854775807) (w : World) (hB : BytesIs w v l) (hR : Rests w) :
    Calls Tryd.prog 27 #[.int .u32 (c : Int), v] w fun e w' => e = .returned (.int .u32 ((crc c l : Nat) : Int)) ∧ w = w' := by
  obtain ⟨a0, cap0, pb0, po0, rfl, hcap0, ha0, hc0⟩ := hB
  have HA0 := Lib.hid ha0
  have HC0 := Lib.hid hc0
  have HR := Lib.hid hR
  clear ha0 hc0 hR
  have ht := turn_u32 c hc
  go_enter Tryd.func27, Tryd.ntmps27
  go_wp2
  clear ht
  go_loop [0, 11] (fun x i => ∃ k : Nat, k ≤ l.length ∧ i = .int .i64 k ∧ x = .int .u32 ((run (c ^^^ ones) (l.take k) : Nat) : Int)) (fun _ i => l.length - (intOf i).toNat)
  case atStart => exact ⟨0, Nat.zero_le _, rfl, rfl⟩
  case round =>
    obtain ⟨k, hk, rfl, rfl⟩ := hrel
    have hx := run_lt (c ^^^ ones) (l.take k) (xor_lt _ _ hc (by decide))
    by_cases hlt : k < l.length
    · obtain rfl := HA0.out (by omega)
      have c0 := HC0.out k hlt
      have hy := (l.getD k 0).toNat_lt
      have hz := xor_lt _ _ hx (show (l.getD k 0).toNat < 4294967296 by omega)
      have HN : Hid (((steps 4 (steps 4 (run (c ^^^ ones) (l.take k) ^^^ (l.getD k 0).toNat)) : Nat) : Int) = ((run (c ^^^ ones) (l.take (k + 1)) : Nat) : Int)) := Lib.hid (by rw [← run_next _ _ _ hlt]; rfl)
      have e0 := u32_xor_nat _ _ hx (show (l.getD k 0).toNat < 4294967296 by omega)
      generalize (l.getD k 0).toNat = y at *
      generalize run (c ^^^ ones) (l.take k) = x at *
      generalize x ^^^ y = z at *
      have hz2 := steps_lt 4 z hz
      have e1 := low4 z hz
      have e2 := HR.out (z % 16) (by omega)
      have e3 := nib_u32 z hz
      have e4 := low4 _ hz2
      have e5 := HR.out (steps 4 z % 16) (by omega)
      have e6 := nib_u32 _ hz2
      generalize restL.getD (z % 16) 0 = r1 at *
      generalize restL.getD (steps 4 z % 16) 0 = r2 at *
      generalize steps 4 (steps 4 z) = u at *
      generalize steps 4 z = t at *
      go_wp2
      go_round
      case rel => exact ⟨k + 1, by omega, by go_num, by rw [← HN.out]⟩
      case measure => simp only [intOf]; omega
    · have hkl : k = l.length := by omega
      have HE : Hid (((run (c ^^^ ones) (l.take k) ^^^ ones : Nat) : Int) = ((crc c l : Nat) : Int)) := Lib.hid (by rw [hkl, List.take_length]; rfl)
      have ht := turn_u32 _ hx
      clear hkl
      generalize run (c ^^^ ones) (l.take k) = x at *
      go_wp2
      go_ret
      exact ⟨by rw [← HE.out]; rfl, rfl⟩
set_option maxHeartbeats 1000000 in
theorem of_any (v : Value) (ps : List (List UInt8)) (w : World) (hp : PartsIs w v ps) (hR : Rests w) (hlen : ∀ p ∈ ps, p.length ≤ 9223372036854775807) :
    Calls Tryd.prog 20 #[v] w fun e w' => e = .returned (.int .u32 ((crc 0 ps.flatten : Nat) : Int)) ∧ w = w' := by
  obtain ⟨a0, cap0, pb0, po0, rfl, hcap0, hn0, ha0, hc0⟩ := hp
  have HA0 := Lib.hid ha0
  have HC0 := Lib.hid hc0
  have HR := Lib.hid hR
  have HLEN := Lib.hid hlen
  clear ha0 hc0 hR hlen
  go_enter Tryd.func20, Tryd.ntmps20
  go_wp2
  go_loop [3, 8] (fun x i => ∃ k : Nat, k ≤ ps.length ∧ i = .int .i64 k ∧ x = .int .u32 ((crc 0 (ps.take k).flatten : Nat) : Int)) (fun _ i => ps.length - (intOf i).toNat)
  case atStart => exact ⟨0, Nat.zero_le _, rfl, by rw [List.take_zero, List.flatten_nil, crc_nil]; rfl⟩
  case round =>
    obtain ⟨k, hk, rfl, rfl⟩ := hrel
    have hx := crc_lt 0 (ps.take k).flatten (by decide)
    by_cases hlt : k < ps.length
    · obtain rfl := HA0.out (by omega)
      obtain ⟨pv, c0, hB⟩ := HC0.out k hlt
      have hpl := HLEN.out (ps.getD k []) (by simp [hlt])
      have HN : Hid (crc (crc 0 (ps.take k).flatten) (ps.getD k []) = crc 0 (ps.take (k + 1)).flatten) := Lib.hid (by
        have : ps.take (k + 1) = ps.take k ++ [ps.getD k []] := by rw [List.take_add_one]; simp [hlt]
        rw [this, List.flatten_append, ← crc_append]; simp)
      obtain ⟨sa, sn, sc, rfl⟩ := hB.slice
      have HB := Lib.hid hB
      clear hB
      generalize ps.getD k [] = p at *
      generalize crc 0 (ps.take k).flatten = x at *
      go_wp2_with fail
      refine (on_any x hx _ p hpl w HB.out HR.out).mono ?_
      rintro e w' ⟨rfl, rfl⟩
      go_wp2
      go_round
      case rel => exact ⟨k + 1, by omega, by go_num, by rw [← HN.out]⟩
      case measure => simp only [intOf]; omega
    · have hkl : k = ps.length := by omega
      have HE : Hid (((crc 0 (ps.take k).flatten : Nat) : Int) = ((crc 0 ps.flatten : Nat) : Int)) := Lib.hid (by rw [hkl, List.take_length])
      clear hkl
      generalize crc 0 (ps.take k).flatten = x at *
      go_wp2
      go_ret
      exact ⟨by rw [← HE.out]; rfl, rfl⟩
end Go.Proofs.YtggdpmfghbnhcaaDoor.Crc
