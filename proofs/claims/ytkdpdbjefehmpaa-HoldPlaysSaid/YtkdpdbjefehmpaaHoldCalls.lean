/-
  How the program's hold lies; the walks of hold's New, Room, Live, List.
-/
import Derived.Test.YtkdpdbjefehmpaaHoldPiece
import Derived.Test.YtkdpdbjefehmpaaHoldSpec
import Derived.Test.YtkdpdbjefehmpaaHoldSort
import Derived.Maps.RangeWalk
import Derived.Sort.OwnSortedInts
import Derived.Deep.LoopGhost
namespace Go.Proofs.Ytkdpdbjefehmpaa.Hold
open Go.RowKit Base Go.Maps Arena Go.Sort Go.Shelf
open Blocks (BlkAt BlkP whole whole_le frees nints nvals)

/-- the object g, its blocks' object xg and bools ob, its map mb, in blocks of its own; ga: the arena's object -/
structure HoldP (w : World) (Own : Nat → Prop) (k ga g xg ob mb : Nat) (O : List Bool) (puts : Nat) (es : List Ent) : Prop where
  obj : w.rowIs g 71 5 (fun i => if i = 0 then ptr ga else if i = 1 then .int .i64 (k : Int) else if i = 2 then ptr xg else if i = 3 then .int .i64 (puts : Int) else .map (some mb))
  blk : BlkP w 0 xg ob O
  map : ∃ n, n ≤ puts ∧ w.ownsMap Try.prog 3 RV mb n (.map (ms (pairs es)))
  lies : ∀ e ∈ es, IntsIs w e.cuts (nints e.T) ∧ (e.T ≠ [] → Lies w Own [g, xg, ob, mb] e.A)
  own : Own g ∧ Own xg ∧ Own ob ∧ Own mb
  ne : g ≠ xg ∧ g ≠ ob
  rise : (ids es).Pairwise (· < ·)
  top : ∀ e ∈ es, e.id ≤ (puts : Int)
namespace HoldP
variable {w w' : World} {Own : Nat → Prop} {k ga g xg ob mb : Nat} {O : List Bool} {puts : Nat} {es : List Ent}
theorem fr {S : Nat → Prop} (h : HoldP w Own k ga g xg ob mb O puts es) (hf : Fr S w w') (hs : ∀ j, Own j → ¬ S j) : HoldP w' Own k ga g xg ob mb O puts es := by
  obtain ⟨o1, o2, o3, o4⟩ := h.own
  obtain ⟨n, hn, hm⟩ := h.map
  exact ⟨hf.row h.obj (hs _ o1), h.blk.fr hf (hs _ o2) (hs _ o3), ⟨n, hn, fr_map hf (hs _ o4) hm⟩, fun e he => by
    obtain ⟨h1, h2⟩ := h.lies e he
    exact ⟨cuts_fr hf h1 (fun hT a ha => hs _ (h2 hT a ha).1), fun hT => (h2 hT).mono hf.size (fun _ _ h => h)⟩, h.own, h.ne, h.rise, h.top⟩
theorem fr0 (h : HoldP w Own k ga g xg ob mb O puts es) (hf : Fr0 w w') : HoldP w' Own k ga g xg ob mb O puts es := h.fr hf (fun _ _ f => f)
theorem g_lt (h : HoldP w Own k ga g xg ob mb O puts es) : g < w.heap.size := h.obj.lt
theorem mb_lt (h : HoldP w Own k ga g xg ob mb O puts es) : mb < w.heap.size := by obtain ⟨n, _, hm⟩ := h.map; exact hm.lt
theorem mono {Own' : Nat → Prop} (h : HoldP w Own k ga g xg ob mb O puts es) (ho : ∀ j, j < w.heap.size → Own j → Own' j) : HoldP w Own' k ga g xg ob mb O puts es := by
  obtain ⟨o1, o2, o3, o4⟩ := h.own
  exact ⟨h.obj, h.blk, h.map, fun e he => ⟨(h.lies e he).1, fun hT => ((h.lies e he).2 hT).mono (Nat.le_refl _) ho⟩, ⟨ho _ h.g_lt o1, ho _ h.blk.g_lt o2, ho _ h.blk.ob_lt o3, ho _ h.mb_lt o4⟩, h.ne, h.rise, h.top⟩
theorem c0 (h : HoldP w Own k ga g xg ob mb O puts es) : w.cell? ⟨g, 0, none⟩ = some (.pointer (some ⟨ga, 0, none⟩)) := h.obj.cell (i := 0) (by decide)
theorem c1 (h : HoldP w Own k ga g xg ob mb O puts es) : w.cell? ⟨g, 1, none⟩ = some (.int .i64 (k : Int)) := h.obj.cell (i := 1) (by decide)
theorem c2 (h : HoldP w Own k ga g xg ob mb O puts es) : w.cell? ⟨g, 2, none⟩ = some (.pointer (some ⟨xg, 0, none⟩)) := h.obj.cell (i := 2) (by decide)
theorem c3 (h : HoldP w Own k ga g xg ob mb O puts es) : w.cell? ⟨g, 3, none⟩ = some (.int .i64 (puts : Int)) := h.obj.cell (i := 3) (by decide)
theorem c4 (h : HoldP w Own k ga g xg ob mb O puts es) : w.cell? ⟨g, 4, none⟩ = some (.map (some mb)) := h.obj.cell (i := 4) (by decide)
end HoldP
def NewPost (k ga : Nat) (n : Nat) (w : World) (e : Ending) (w' : World) : Prop :=
  ∃ g xg ob mb, e = .returned (.tuple #[ptr g, .int .i64 0]) ∧ HoldP w' (fun j => w.heap.size ≤ j) k ga g xg ob mb (List.replicate n false) 0 [] ∧ Fr0 w w'
set_option maxHeartbeats 2000000 in
theorem new_nil (i : Int) (w : World) : Calls Try.prog 9 #[.pointer none, .int .i64 i] w fun e w' => e = .returned (.tuple #[.pointer none, .int .i64 1]) ∧ w' = w := by
  go_enter Try.func9, Try.ntmps9
  go_wp2
  go_ret2
  exact ⟨rfl, rfl⟩
set_option maxHeartbeats 2000000 in
theorem new_out (B ga pb cb : Nat) (L : List Int) (bs : List UInt8) (i : Int) (w : World) (h : AreP w B ga pb cb L bs) (hi : i < 0 ∨ (L.length : Int) ≤ i) :
    Calls Try.prog 9 #[ptr ga, .int .i64 i] w fun e w' => e = .returned (.tuple #[.pointer none, .int .i64 1]) ∧ Fr0 w w' := by
  have hp := region_out B ga pb cb L bs i w h hi
  clear h hi
  unfold ptr at hp ⊢
  go_enter Try.func9, Try.ntmps9
  go_wp2_with fail
  refine hp.mono ?_
  rintro e w1 ⟨rfl, hf⟩
  have HF := Lib.hid hf
  clear hp hf
  go_wp2
  go_ret2
  exact ⟨rfl, HF.out⟩
set_option maxHeartbeats 4000000 in
theorem new_in (B ga pb cb : Nat) (L : List Int) (bs : List UInt8) (k : Nat) (w : World) (h : AreP w B ga pb cb L bs) (hk : k < L.length) :
    Calls Try.prog 9 #[ptr ga, .int .i64 (k : Int)] w (NewPost k ga (whole (cut L (k + 1) - cut L k)) w) := by
  have hp := region_in B ga pb cb L bs k w h hk
  have hz := h.fits.zero (k := k) (by omega)
  have hy := h.fits.le (k := k + 1) hk
  have hs1 := h.fits.s1
  have hm := h.fits.mono (Nat.le_succ k) hk
  clear h
  generalize cut L k = c at *
  generalize cut L (k + 1) = d at *
  unfold ptr at hp ⊢
  go_enter Try.func9, Try.ntmps9
  go_wp2_with fail
  refine hp.mono ?_
  rintro e w1 ⟨rfl, hf⟩
  have HF := Lib.hid hf
  clear hp hf
  have hkk : (k : Int) ≤ 65536 ∨ True := .inr trivial
  go_wp2_with fail
  refine (Blocks.new_any (d - c) (by omega) w1).mono ?_
  rintro e w2 ⟨xg, ob, rfl, hb, hf2⟩
  have HB := Lib.hid hb
  have HF2 := Lib.hid hf2
  have HE : Hid (NewPost k ga (whole (d - c)) w (.returned (.tuple #[.pointer (some ⟨w2.heap.size + 1, 0, none⟩), .int .i64 0])) ((w2.alloc (.map #[] 0)).alloc (.cells #[.pointer (some ⟨ga, 0, none⟩), .int .i64 (k : Int), .pointer (some ⟨xg, 0, none⟩), .int .i64 0, .map (some w2.heap.size)] 71))) := Lib.hid (by
    have hg := hb.g_lt
    have ho := hb.ob_lt
    have h1 := HF.out.size
    have h2 := hf2.size
    have hgB := hb.gB
    have hoB := hb.oB
    have f2 : Fr0 w2 ((w2.alloc (.map #[] 0)).alloc (.cells #[.pointer (some ⟨ga, 0, none⟩), .int .i64 (k : Int), .pointer (some ⟨xg, 0, none⟩), .int .i64 0, .map (some w2.heap.size)] 71)) := ((Fr.refl _ _).alloc _).alloc _
    refine ⟨w2.heap.size + 1, xg, ob, w2.heap.size, rfl, ⟨?_, (hb.base (Nat.zero_le _)).fr0 f2, ⟨0, Nat.le_refl _, (World.ownsMap_made w2 Try.prog 3 RV).alloc _⟩, (fun e he => by cases he), ⟨by omega, by omega, by omega, by omega⟩, ⟨by omega, by omega⟩, List.Pairwise.nil, (fun e he => by cases he)⟩, HF.out.trans' (hf2.trans' f2)⟩
    have := rowIs_new (w2.alloc (.map #[] 0)) #[.pointer (some ⟨ga, 0, none⟩), .int .i64 (k : Int), .pointer (some ⟨xg, 0, none⟩), .int .i64 0, .map (some w2.heap.size)] 71 5 (fun i => if i = 0 then ptr ga else if i = 1 then .int .i64 (k : Int) else if i = 2 then ptr xg else if i = 3 then .int .i64 ((0 : Nat) : Int) else .map (some w2.heap.size)) rfl (fun i hi => by
      match i, hi with
      | 0, _ => rfl
      | 1, _ => rfl
      | 2, _ => rfl
      | 3, _ => rfl
      | 4, _ => rfl)
    simpa using this)
  clear hb hf2
  have hmm := @run_makeMap Try.prog
  go_wp2
  go_ret2
  exact HE.out
set_option maxHeartbeats 2000000 in
theorem room_any (Own : Nat → Prop) (k ga g xg ob mb : Nat) (O : List Bool) (puts : Nat) (es : List Ent) (w : World) (h : HoldP w Own k ga g xg ob mb O puts es) :
    Calls Try.prog 17 #[ptr g] w fun e w' => e = .returned (.int .i64 (((frees O).length : Int) * 32)) ∧ Fr0 w w' := by
  have hr := Blocks.free_any 0 xg ob O w h.blk
  have c2 := h.c2
  have hl := Blocks.frees_length O
  have hlen := h.blk.len
  clear h
  unfold ptr
  go_enter Try.func17, Try.ntmps17
  go_wp2_with fail
  refine hr.mono ?_
  rintro e w1 ⟨rfl, hf⟩
  have HF := Lib.hid hf
  clear hr hf c2
  go_wp2
  go_ret
  exact ⟨rfl, HF.out⟩
/-- a sum over what is kept that is still to come -/
def liveOf (es : List Ent) (left : Lit → Bool) : Nat := ((es.filter fun e => left (key e.id)).map fun e => e.x.length).sum
theorem liveOf_all {es : List Ent} {left : Lit → Bool} (h : ∀ e ∈ es, left (key e.id) = true) : liveOf es left = live es := by
  unfold liveOf live
  rw [List.filter_eq_self.2 h]
theorem liveOf_none {es : List Ent} {left : Lit → Bool} (h : ∀ kl, left kl = false) : liveOf es left = 0 := by
  unfold liveOf
  rw [List.filter_eq_nil_iff.2 (fun e _ => by rw [h]; decide)]
  rfl
theorem liveOf_cons (e : Ent) (es : List Ent) (left : Lit → Bool) : liveOf (e :: es) left = (if left (key e.id) = true then e.x.length else 0) + liveOf es left := by
  unfold liveOf
  by_cases h : left (key e.id) = true
  · rw [List.filter_cons_of_pos (by simpa using h), if_pos h]; simp
  · rw [List.filter_cons_of_neg (by simpa using h), if_neg h]; simp
theorem liveOf_congr {es : List Ent} {f g : Lit → Bool} (h : ∀ e ∈ es, f (key e.id) = g (key e.id)) : liveOf es f = liveOf es g := by
  unfold liveOf
  rw [List.filter_congr h]
theorem liveOf_strike {left : Lit → Bool} {e : Ent} (hl : left (key e.id) = true) : ∀ {es : List Ent}, (ids es).Pairwise (· < ·) → e ∈ es → liveOf es left = e.x.length + liveOf es (fun z => left z && !z.sameKey (key e.id))
  | [], _, h => by cases h
  | a :: es, hr, h => by
    have hr' : (a.id :: ids es).Pairwise (· < ·) := hr
    obtain ⟨hr1, hr2⟩ := List.pairwise_cons.1 hr'
    rw [liveOf_cons, liveOf_cons]
    rcases List.mem_cons.1 h with rfl | h
    · rw [if_pos hl, if_neg (by simp [key_same])]
      have : liveOf es left = liveOf es (fun z => left z && !z.sameKey (key e.id)) := liveOf_congr fun b hb => by
        have := hr1 b.id (List.mem_map_of_mem hb)
        rw [key_same, decide_eq_false (by omega)]
        simp
      omega
    · have hlt := hr1 e.id (List.mem_map_of_mem h)
      have e1 : (left (key a.id) && !(key a.id).sameKey (key e.id)) = left (key a.id) := by rw [key_same, decide_eq_false (by omega)]; simp
      rw [e1, liveOf_strike hl hr2 h]
      omega
theorem pairs_mem {es : List Ent} {n : Int} {v : Value} (h : (n, v) ∈ pairs es) : ∃ e ∈ es, e.id = n ∧ e.val = v := by
  obtain ⟨e, he, h⟩ := List.mem_map.1 h
  cases h
  exact ⟨e, he, rfl, rfl⟩
theorem has_pairs {es : List Ent} {e : Ent} (he : e ∈ es) : Maps.has (DataW.map (ms (pairs es))) (key e.id) = true := by
  rw [map_has, List.any_eq_true]
  exact ⟨(e.id, e.val), List.mem_map.2 ⟨e, he, rfl⟩, by simp⟩
set_option maxHeartbeats 4000000 in
theorem live_any (Own : Nat → Prop) (k ga g xg ob mb : Nat) (O : List Bool) (puts : Nat) (es : List Ent) (hlv : live es ≤ 1000000) (w : World) (h : HoldP w Own k ga g xg ob mb O puts es) :
    Calls Try.prog 16 #[ptr g] w fun e w' => e = .returned (.int .i64 (live es : Int)) ∧ Fr0 w w' := by
  have c4 := h.c4
  have HH := Lib.hid h
  obtain ⟨n, hn, hm⟩ := h.map
  have HM := Lib.hid hm
  clear h hm
  unfold ptr
  go_enter Try.func16, Try.ntmps16
  go_wp2_with (at_range; refine wpList_range_own _ rfl _ 69 rfl 3 76 (int_keyed Try.underlying3) Try.underlying69 RV mb n (.map (ms (pairs es))) rfl HM.out ?_; intro w0 hrg0 hg0 hs0)
  go_frame
  have HR := Lib.hid hrg0
  have HF0 : Hid (Fr0 w w0) := Lib.hid (Fr.of_grown hg0 (fun q hq e => by cases e))
  have HMB : Hid (mb < w.heap.size) := Lib.hid HM.out.lt
  clear hrg0 hg0 hs0
  go_loopg [3] es.length (fun kx s wr => ∃ (acc cnt : Nat) (left : Lit → Bool), s = .int .i64 acc ∧ cnt ≤ kx ∧ Hid (wr.ranges Try.prog 3 RV mb w.heap.size n (.map (ms (pairs es))) left cnt) ∧ Hid (acc + liveOf es left = live es) ∧ Hid (Fr0 w wr))
  case atStart => exact ⟨0, _, _, rfl, by rw [map_size, pairs_length]; exact Nat.le_refl _, HR, Lib.hid (by rw [Nat.zero_add]; exact liveOf_all fun e he => has_pairs he), HF0⟩
  case round =>
    clear HR HF0
    obtain ⟨acc, cnt, left, rfl, hg, HR, HL, HF⟩ := hrel
    go_wp2_with (at_next; refine wpList_next_ranges _ rfl _ rfl 3 (int_keyed Try.underlying3) RV (Value.int .i64) mkV (fun key kl hk => by obtain ⟨x, rfl, _⟩ := Maps.keyOf_i64 Try.underlying3 hk; exact ⟨x, rfl⟩) invV mb w.heap.size n (.map (ms (pairs es))) left cnt rfl HR.out ?_ ?_)
    · intro hc0 hl0
      have HE : Hid (acc = live es) := Lib.hid (by have := HL.out; rw [liveOf_none hl0] at this; omega)
      clear hl0
      go_wp2
      go_ret
      exact ⟨by rw [← HE.out]; rfl, HF.out⟩
    · intro x A nn C s kl d ps w1 cnt1 hkey hlk hR hat hrg1 hlt1 hg1 hs1 hen
      obtain ⟨x', e1, rfl, _⟩ := Maps.keyOf_i64 Try.underlying3 hkey
      cases e1
      obtain ⟨_, _, hy⟩ := RV_inv hR
      cases hy
      obtain ⟨e, he, hid, hval⟩ := pairs_mem (at_mem hat)
      obtain rfl : s = (e.x.length : Int) := by
        unfold Ent.val mkV at hval
        simp at hval
        exact hval.2.symm
      have HL1 : Hid (acc + e.x.length + liveOf es (fun z => left z && !z.sameKey (key x)) = live es) := Lib.hid (by
        subst hid
        have h1 := HL.out
        rw [liveOf_strike (e := e) hlk HH.out.rise he] at h1
        omega)
      have HR1 := Lib.hid hrg1
      have HF1 : Hid (Fr0 w w1) := Lib.hid (HF.out.grown hg1 (fun q hq e => by cases e; exact absurd hq (Nat.lt_irrefl _)))
      have hle : acc + e.x.length ≤ 1000000 := by have := HL1.out; omega
      clear hkey hlk hR hat hrg1 hg1 hs1 hval hid he HL HR
      unfold mkV at hen ⊢
      generalize e.x.length = m at *
      go_wp2
      have HF2 := Lib.hid (HF1.out.alloc (.cells #[.slice A nn C, .int .i64 (m : Int)] 76))
      have HR2 := Lib.hid (HR1.out.alloc (.cells #[.slice A nn C, .int .i64 (m : Int)] 76))
      clear HR1 HF1 hen
      go_roundg cnt1
      case measure => omega
      case rel => exact ⟨acc + m, cnt1, _, by simp, by omega, HR2, HL1, HF2⟩
/-- slices.Sort's two contracts at this program -/
theorem sortsH (m : Nat) : AnyZI.SortsIn Try.prog Try.sortedH_ren Fence.wide m :=
  ⟨fun blk off cap ss W hH hblk hsz => callsIn_wide.2 (AnyM.slices_Sort_int Try.sortH blk off cap ss W hH hblk hsz),
   fun p cap W => callsIn_wide.2 (AnyM.slices_Sort_int_none Try.sortH p cap W)⟩
theorem keys_any (mb : Option Nat) (W : World) : Calls Try.prog 36 #[.map mb] W fun e w' => e = .returned (.func (.func 50) #[] #[.pointer (some ⟨W.heap.size, 0, none⟩)]) ∧ w' = W.alloc (.cells #[.map mb] 69) :=
  (callsIn_wide (n := 5)).1 (AnyZI.keys_in Try.keysH Fence.wide 5 trivial rfl mb W)
theorem sorted_any (b nn : Nat) (D0 : DataW Value) (w : World) (hown : w.ownsMap Try.prog 3 RV b nn D0) (hmax : Maps.size D0 ≤ maxLen) (hbytes : Maps.size D0 * 8 ≤ 140737488355328) :
    Calls Try.prog 35 #[.func (.func 50) #[] #[.pointer (some ⟨w.heap.size, 0, none⟩)]] (w.alloc (.cells #[.map (some b)] 69)) fun e w' => ∃ (v : Value) (ss : List Int), e = .returned v ∧ ss.Perm (intKeys D0) ∧
      w'.ownsRow (w.alloc (.cells #[.map (some b)] 69)).heap.size 3 1 v ss.length ((ss.mergeSort (fun x y => decide (x ≤ y))).map encZ) ∧ Below (w.alloc (.cells #[.map (some b)] 69)).heap.size (w.alloc (.cells #[.map (some b)] 69)) w' := by
  have hbl := hown.lt
  have hseq : SeqGives Fence.wide 2 Try.prog 50 #[.pointer (some ⟨w.heap.size, 0, none⟩)] encZ (fun ss => ss.Perm (intKeys D0)) (Maps.size D0) (w.alloc (.cells #[.map (some b)] 69)) :=
    AnyZI.keys_gives (ρ := Try.keysH_ren) { Try.keysH with } Fence.wide _ trivial rfl (by omega) w.heap.size b nn D0 _ (by simp) (by simp) (by
      obtain ⟨es, clock, hb, Ft, hs, hD⟩ := hown
      exact ⟨es, clock, (Below.heap_alloc _ _ b hbl).trans hb, Ft, hs, hD⟩)
  have cS := AnyZI.sorted_in Try.sortedH Fence.wide 5 trivial trivial trivial trivial rfl (by omega) (sortsH _) (enters_of Try.func49 (by kernel_rfl) rfl) 50 #[.pointer (some ⟨w.heap.size, 0, none⟩)] trivial (enters_of Try.func50 (by kernel_rfl) rfl) _ _ hmax hbytes _ hseq
  change CallsIn _ _ Try.prog 35 _ _ _ at cS
  refine ((callsIn_wide (n := 5)).1 cS).mono ?_
  rintro e w' ⟨v, ss, h1, h2, h3, _, h5⟩
  exact ⟨v, ss, h1, h2, h3, h5⟩
def IntsPost (l : List Int) (w : World) (e : Ending) (w' : World) : Prop := ∃ v, e = .returned v ∧ IntsIs w' v l ∧ Fr0 w w' ∧ Fresh w v
theorem ints_owns {w : World} {base : Nat} {e : TypeId} {v : Value} {n : Nat} {l : List Int} (h : w.ownsRow base e 1 v n (l.map encZ)) : IntsIs w v l := by
  have hl : l.length = n := by have := h.1; rw [List.length_map] at this; omega
  rcases h.2 with ⟨rfl, hn⟩ | ⟨g, cap, cur, rfl, hb, hg, hnc, hcm, hcs, ht⟩
  · obtain rfl : l = [] := List.eq_nil_of_length_eq_zero (by omega)
    exact IntsIs.nil w
  · subst hl
    refine ⟨_, cap, g, 0, rfl, hnc, fun _ => rfl, fun j hj => ?_⟩
    rw [Nat.zero_add, h.cellAt j (by omega)]
    simp [hj]
set_option maxHeartbeats 2000000 in
theorem list_any (Own : Nat → Prop) (k ga g xg ob mb : Nat) (O : List Bool) (puts : Nat) (es : List Ent) (hlen : es.length ≤ 1000000) (w : World) (h : HoldP w Own k ga g xg ob mb O puts es) :
    Calls Try.prog 15 #[ptr g] w (IntsPost (ids es) w) := by
  have c4 := h.c4
  have hk := keys_any (some mb) w
  obtain ⟨n, hn, hm⟩ := h.map
  have hsz : Maps.size (DataW.map (ms (pairs es))) ≤ 1000000 := by rw [map_size, pairs_length]; exact hlen
  have hso := sorted_any mb n _ w hm (by unfold maxLen; omega) (by omega)
  have HRI := Lib.hid h.rise
  clear h hm
  unfold ptr
  go_enter Try.func15, Try.ntmps15
  go_wp2_with fail
  refine hk.mono ?_
  rintro e w1 ⟨rfl, rfl⟩
  go_wp2_with fail
  refine hso.mono ?_
  rintro e w2 ⟨v, ss, rfl, hp, ho, hb⟩
  have HE : Hid (IntsPost (ids es) w (.returned v) w2) := Lib.hid (by
    rw [intKeys_ms, pairs_keys] at hp
    rw [perm_rising HRI.out hp] at ho
    have hf : Fr0 w w2 := ((Fr.refl _ _).alloc _).trans' (Fr.of_below hb)
    refine ⟨v, rfl, ints_owns ho, hf, ?_⟩
    have := Fresh.own ho
    intro a n c hv
    have h1 := this a n c hv
    simp at h1
    omega)
  clear hk hso hp ho hb
  go_wp2
  go_ret
  exact HE.out
end Go.Proofs.Ytkdpdbjefehmpaa.Hold
