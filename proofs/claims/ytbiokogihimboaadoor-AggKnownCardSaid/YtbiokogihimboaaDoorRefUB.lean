/-
  The reference's U: a number behind bytes, the highest first (as RefU, without sum's texts).
-/
import Derived.Test.YtbiokogihimboaaDoorPackWrite
namespace Go.Proofs.YtbiokogihimboaaDoor.RefB
open Go.RowKit Base

def beb (v n : Nat) : List UInt8 := (List.range n).map fun j => UInt8.ofNat (v / 2 ^ (8 * (n - 1 - j)))
theorem beb_next (v n m : Nat) (h : m + 1 ≤ n) : (beb v n).take (n - (m + 1)) ++ [UInt8.ofNat (v / 2 ^ (8 * m))] = (beb v n).take (n - m) := by
  have e : n - m = (n - (m + 1)) + 1 := by omega
  have : (beb v n)[n - (m + 1)]? = some (UInt8.ofNat (v / 2 ^ (8 * m))) := by
    simp only [beb, List.getElem?_map]
    rw [List.getElem?_range (by omega)]
    simp [show n - 1 - (n - (m + 1)) = m from by omega]
  rw [e, List.take_add_one, this]
  rfl
/-- the call answers a row of its own that reads as l; nothing that was there has turned -/
def RetOwn (w : World) (l : List UInt8) (e : Ending) (w' : World) : Prop := ∃ v, e = .returned v ∧ w'.ownsRow w.heap.size 5 1 v l.length (bvals l) ∧ Fr0 w w'
set_option maxHeartbeats 1000000 in
theorem u_any (vb : Value) (l : List UInt8) (v n : Nat) (hv : v < 18446744073709551616) (hn : n ≤ 8) (hl : l.length ≤ 1099511627776) (w : World) (hB : BytesIs w vb l) :
    Calls Tryd.prog 28 #[vb, .int .u64 (v : Int), .int .i64 (n : Int)] w (RetOwn w (l ++ beb v n)) := by
  obtain ⟨sa, sn, sc, hsv⟩ := hB.slice
  subst hsv
  have HB := Lib.hid hB
  clear hB
  have HOWN0 := Lib.hid (owns_empty w w.heap.size 5 (Nat.le_refl _) w.heap.size rfl)
  go_enter Tryd.func28, Tryd.ntmps28
  go_wp2_with (at_builtin; refine wpList_append_bytes rfl _ _ 28 rfl w.heap.size 5 Tryd.underlying28 Pack.info8 _ _ 0 [] l rfl rfl HOWN0.out (HB.out.fr0 ((Fr.refl _ _).alloc _)) (by omega) (by simp) ?_)
  intro v1 w1 hown1 hgr1
  have HOWN1 : Hid (w1.ownsRow w.heap.size 5 1 v1 l.length (bvals l)) := Lib.hid (by simpa using hown1)
  have HF1 : Hid (Fr0 w w1) := Lib.hid (Fr.grown (Fr.alloc (Fr.refl _ _) _) hgr1 (fun q hq e => by have := HOWN0.out.lt q e; omega))
  clear hown1 hgr1 HOWN0
  go_wp2_with fail
  go_loopw [0, 7] (fun s i wr => ∃ (x : Int) (r : Nat), r ≤ n ∧ i = .int .i64 x ∧ x + 1 = r ∧ wr.ownsRow w.heap.size 5 1 s (l.length + (n - r)) (bvals (l ++ (beb v n).take (n - r))) ∧ Fr0 w wr) (fun _ i _ => (intOf i + 1).toNat)
  case atStart => exact ⟨_, n, Nat.le_refl _, rfl, by omega, by simpa using HOWN1.out, HF1.out⟩
  case round =>
    clear HOWN1 HF1
    obtain ⟨x, r, hr, rfl, hx, hown, hF⟩ := hrel
    have HOWN := Lib.hid hown
    have HF := Lib.hid hF
    clear hown hF
    by_cases h0 : 0 ≤ x
    · obtain ⟨m, rfl⟩ := Int.eq_ofNat_of_zero_le h0
      have hrm : m + 1 = r := by omega
      clear hx
      have hsz := HF.out.size
      have hone := BytesIs.one wr (UInt8.ofNat (v / 2 ^ (8 * m))) (.int .u8 ((v : Int) / 2 ^ (8 * m) % 256)) (by congr 1) 5 wr.heap.size rfl
      have HONE := Lib.hid hone
      have HRM := Lib.hid hrm
      have hmr : m + 1 ≤ n := by omega
      clear hone hrm hr
      have hOWN : wr.ownsRow w.heap.size 5 1 u0 (l.length + (n - (m + 1))) (bvals (l ++ (beb v n).take (n - (m + 1)))) := by rw [HRM.out]; exact HOWN.out
      have HOWN' := Lib.hid hOWN
      clear hOWN
      go_wp2_with (at_builtin; refine wpList_append_bytes rfl _ _ 28 rfl w.heap.size 5 Tryd.underlying28 Pack.info8 _ _ (l.length + (n - (m + 1))) _ [UInt8.ofNat (v / 2 ^ (8 * m))] rfl rfl (HOWN'.out.alloc _) HONE.out (by simp; omega) (by simp; omega) ?_)
      intro v2 w2 hown2 hgr2
      have HOWN2 : Hid (w2.ownsRow w.heap.size 5 1 v2 (l.length + (n - m)) (bvals (l ++ (beb v n).take (n - m)))) := Lib.hid (by
        have e : l ++ (List.take (n - (m + 1)) (beb v n) ++ [UInt8.ofNat (v / 2 ^ (8 * m))]) = l ++ (beb v n).take (n - m) := by rw [beb_next v n m hmr]
        rw [← e, show l.length + (n - m) = l.length + (n - (m + 1)) + 1 from by omega]
        exact hown2)
      have HF2 : Hid (Fr0 w w2) := Lib.hid (Fr.grown (Fr.alloc HF.out _) hgr2 (fun q hq e => by have := HOWN'.out.lt q e; omega))
      clear hown2 hgr2
      go_wp2
      go_roundw
      case rel => exact ⟨_, m, by omega, rfl, by omega, HOWN2.out, HF2.out⟩
      case measure => simp only [intOf]; omega
    · have hr0 : r = 0 := by omega
      have hown := HOWN.out
      rw [hr0, Nat.sub_zero, show (beb v n).take n = beb v n from by rw [List.take_of_length_le (by simp [beb])]] at hown
      have hOs : wr.ownsRow w.heap.size 5 1 u0 (l ++ beb v n).length (bvals (l ++ beb v n)) := by rw [show l.length + n = (l ++ beb v n).length from by simp [beb]] at hown; exact hown
      have HBS := Lib.hid hOs
      clear hown hOs hr0 hx
      go_wp2
      go_ret
      exact ⟨_, rfl, HBS.out, HF.out⟩
theorem beb_be (k v : Nat) : beb v k = Pack.be k v := by
  unfold beb Pack.be
  apply List.map_congr_left
  intro i _
  apply UInt8.toNat_inj.1
  simp
theorem RetOwn.bytes {w w' : World} {l : List UInt8} {e : Ending} (h : RetOwn w l e w') : ∃ v, e = .returned v ∧ BytesIs w' v l ∧ Fr0 w w' ∧ ∀ a n c, v = .slice (some a) n c → w.heap.size ≤ a.block := by
  obtain ⟨v, h1, h2, h3⟩ := h
  exact ⟨v, h1, BytesIs.own h2, h3, fun a n c hv => (h2.lt a.block (by rw [hv]; rfl)).1⟩
end Go.Proofs.YtbiokogihimboaaDoor.RefB
