/-
  What the chapter says of keys, of rows at the end, of what is used.
-/
import Derived.Test.YtnglmkombogheaaIndexAwake
import Derived.Test.YtnglmkombogheaaIndexAlike
namespace Go.Proofs.Ytnglmkombogheaa.Index
open Go.RowKit Base
open _root_.Go.Proofs.Ytnglmkombogheaa.Ord (Grown ptr)

/-- all of the index's blocks are from B on, and none of them is the law's own (N) -/
abbrev IxN (N : List Nat) (B : Nat) (w : World) (g : Nat) (L : List En) : Prop := IxAt (fun k => B ≤ k ∧ k < w.heap.size ∧ k ∉ N) w g L
/-- none of N has turned -/
abbrev FrN (N : List Nat) (w w' : World) : Prop := Fr (fun k => k ∉ N) w w'
section
variable {N : List Nat} {B : Nat} {w w0 : World} {g : Nat} {L L' : List En}
theorem IxN.grow {w' : World} (h0 : Fr0 w0 w) (hB : w0.heap.size = B) (hN : ∀ k ∈ N, k < w.heap.size) (hF : Fr (fun k => B ≤ k ∧ k < w.heap.size ∧ k ∉ N) w w') (hI : IxAt (Grown (fun k => B ≤ k ∧ k < w.heap.size ∧ k ∉ N) w w') w' g L) :
    IxN N B w' g L ∧ Fr0 w0 w' ∧ FrN N w w' ∧ ∀ k ∈ N, k < w'.heap.size := by
  have hs := hF.size
  have h1 := h0.size
  refine ⟨hI.mono fun k hk => ?_, Fr.trans h0 hF (fun i hi e => ?_), hF.mono (fun i _ e => e.2.2), fun k hk => Nat.lt_of_lt_of_le (hN k hk) hs⟩
  · rcases hk with hk | hk
    · exact ⟨hk.1, by omega, hk.2.2⟩
    · exact ⟨by omega, hk.2, fun hm => by have := hN k hm; omega⟩
  · have e' : B ≤ i := e.1
    omega
theorem IxN.fr0 {w' : World} (h : IxN N B w g L) (hf : Fr0 w w') (hN : ∀ k ∈ N, k < w.heap.size) : IxN N B w' g L := (IxAt.fr h hf fun _ _ _ f => f).mono fun k hk => ⟨hk.1, Nat.lt_of_lt_of_le hk.2.1 hf.size, hk.2.2⟩
/-- the law has made a block of its own -/
theorem IxN.own (o : Obj) (h : IxN N B w g L) (hN : ∀ k ∈ N, k < w.heap.size) : IxN (w.heap.size :: N) B (w.alloc o) g L ∧ ∀ k ∈ w.heap.size :: N, k < (w.alloc o).heap.size := by
  refine ⟨(IxAt.fr h ((Fr.refl (fun _ => False) w).alloc o) fun _ _ _ f => f).mono fun k hk => ⟨hk.1, ?_, fun hm => ?_⟩, fun k hk => ?_⟩
  · have := hk.2.1
    simp; omega
  · rcases List.mem_cons.1 hm with rfl | hm
    · have := hk.2.1; omega
    · exact hk.2.2 hm
  · rcases List.mem_cons.1 hk with rfl | hk
    · simp
    · have := hN k hk; simp; omega
theorem FrN.cellN {w' : World} {b i : Nat} {v : Value} (h : FrN N w w') (hb : b ∈ N) (hc : w.cell? ⟨b, i, none⟩ = some v) : w'.cell? ⟨b, i, none⟩ = some v :=
  (h.cell (p := ⟨b, i, none⟩) (World.block_lt_of_cell? w _ hc) (fun f => f hb)).trans hc
/-- what a call leaves -/
def After (N : List Nat) (B : Nat) (w0 w : World) (g : Nat) (L : List En) (w' : World) : Prop := IxN N B w' g L ∧ Fr0 w0 w' ∧ FrN N w w' ∧ ∀ k ∈ N, k < w'.heap.size
theorem after0 {w' : World} (h : IxN N B w g L) (h0 : Fr0 w0 w) (hN : ∀ k ∈ N, k < w.heap.size) (hF : Fr0 w w') : After N B w0 w g L w' := ⟨h.fr0 hF hN, h0.trans' hF, hF.zero, fun k hk => Nat.lt_of_lt_of_le (hN k hk) hF.size⟩
theorem add_n (x : En) (r : Int) (L' : List En) (h1 : addErr L x = r) (h2 : addSt L x = L') (h : IxN N B w g L) (h0 : Fr0 w0 w) (hB : w0.heap.size = B) (hN : ∀ k ∈ N, k < w.heap.size) (hk : x.k.size ≤ 140737488351232) (hs : x.s.size ≤ 140737488351232) :
    Calls Try.prog 8 #[.pointer (some ⟨g, 0, none⟩), .agg (e5 x)] w fun e w' => e = .returned (.int .i64 r) ∧ After N B w0 w g L' w' :=
  (iadd_any _ g L x w h hk hs).mono fun e w' ⟨he, hF, hI⟩ => ⟨by rw [he, h1], IxN.grow h0 hB hN hF (by rw [← h2]; exact hI)⟩
theorem drop_n (r : Int) (hr : inI64 r) (x : En) (b : Bool) (L' : List En) (h1 : atX L r = x) (h2 : isRow L r = b) (h3 : dropSt L r = L') (h : IxN N B w g L) (h0 : Fr0 w0 w) (hB : w0.heap.size = B) (hN : ∀ k ∈ N, k < w.heap.size) :
    Calls Try.prog 14 #[.pointer (some ⟨g, 0, none⟩), .int .i64 r] w fun e w' => e = .returned (.tuple #[.agg (e5 x), .bool b]) ∧ After N B w0 w g L' w' :=
  (idrop_any _ g L r hr w h).mono fun e w' ⟨he, hF, hI⟩ => ⟨by rw [he, h1, h2], IxN.grow h0 hB hN hF (by rw [← h3]; exact hI)⟩
theorem set_n (r : Int) (hr : inI64 r) (u b : Bool) (L' : List En) (h2 : isRow L r = b) (h3 : setSt L r u = L') (h : IxN N B w g L) (h0 : Fr0 w0 w) (hB : w0.heap.size = B) (hN : ∀ k ∈ N, k < w.heap.size) :
    Calls Try.prog 11 #[.pointer (some ⟨g, 0, none⟩), .int .i64 r, .bool u] w fun e w' => e = .returned (.bool b) ∧ After N B w0 w g L' w' :=
  (iset_any _ g L r hr u w h).mono fun e w' ⟨he, hF, hI⟩ => ⟨by rw [he, h2], IxN.grow h0 hB hN hF (by rw [← h3]; exact hI)⟩
theorem touch_n (k : ByteArray) (b : Bool) (L' : List En) (h2 : hasX k L = b) (h3 : touchSt L k = L') (h : IxN N B w g L) (h0 : Fr0 w0 w) (hB : w0.heap.size = B) (hN : ∀ k ∈ N, k < w.heap.size) :
    Calls Try.prog 10 #[.pointer (some ⟨g, 0, none⟩), .string k] w fun e w' => e = .returned (.bool b) ∧ After N B w0 w g L' w' :=
  (itouch_any _ g L k w h).mono fun e w' ⟨he, hF, hI⟩ => ⟨by rw [he, h2], IxN.grow h0 hB hN hF (by rw [← h3]; exact hI)⟩
theorem at_n (r : Int) (hr : inI64 r) (x : En) (b : Bool) (h1 : atX L r = x) (h2 : isRow L r = b) (h : IxN N B w g L) (h0 : Fr0 w0 w) (hN : ∀ k ∈ N, k < w.heap.size) :
    Calls Try.prog 12 #[.pointer (some ⟨g, 0, none⟩), .int .i64 r] w fun e w' => e = .returned (.tuple #[.agg (e5 x), .bool b]) ∧ After N B w0 w g L w' :=
  (iat_any _ g L r hr w h).mono fun e w' ⟨he, hF⟩ => ⟨by rw [he, h1, h2], after0 h h0 hN hF⟩
theorem live_n (n : Int) (hs : ∀ x ∈ L, 0 ≤ x.sz ∧ x.sz ≤ 1099511627776) (h1 : liveX L = n) (h : IxN N B w g L) (h0 : Fr0 w0 w) (hN : ∀ k ∈ N, k < w.heap.size) :
    Calls Try.prog 13 #[.pointer (some ⟨g, 0, none⟩)] w fun e w' => e = .returned (.int .i64 n) ∧ After N B w0 w g L w' :=
  (ilive_any _ g L hs w h).mono fun e w' ⟨he, hF⟩ => ⟨by rw [he, h1], after0 h h0 hN hF⟩
theorem own_n (o : Obj) (h : IxN N B w g L) (h0 : Fr0 w0 w) (hN : ∀ k ∈ N, k < w.heap.size) : IxN (w.heap.size :: N) B (w.alloc o) g L ∧ Fr0 w0 (w.alloc o) ∧ FrN N w (w.alloc o) ∧ ∀ k ∈ w.heap.size :: N, k < (w.alloc o).heap.size := by
  obtain ⟨h1, h2⟩ := IxN.own o h hN
  exact ⟨h1, h0.alloc o, ((Fr.refl (fun _ => False) w).alloc o).zero, h2⟩
theorem FrN.intsN {w' : World} {b o n C : Nat} {l : List Int} (h : FrN N w w') (hb : b ∈ N) (hI : IntsIs w (.slice (some ⟨b, o, none⟩) n C) l) : IntsIs w' (.slice (some ⟨b, o, none⟩) n C) l :=
  hI.fr h (fun a n' c hv => by
    simp only [Value.slice.injEq, Option.some.injEq] at hv
    rw [← hv.1]
    exact fun f => f hb)
theorem of_n (s : ByteArray) (m : List Int) (k : Nat) (h1 : ((ofX s L).map fun i : Nat => (i : Int)) = m) (hk : m.length = k) (h0k : 0 < k) (h : IxN N B w g L) (h0 : Fr0 w0 w) (hN : ∀ k ∈ N, k < w.heap.size) :
    Calls Try.prog 9 #[.pointer (some ⟨g, 0, none⟩), .string s] w fun e w' => ∃ b o C, e = .returned (.slice (some ⟨b, o, none⟩) k C) ∧ IntsIs w' (.slice (some ⟨b, o, none⟩) k C) m ∧ (IxN (b :: N) B w' g L ∧ Fr0 w0 w' ∧ FrN N w w' ∧ ∀ k ∈ b :: N, k < w'.heap.size) :=
  (iof_any _ g L s w h).mono fun e w' ⟨v, he, hv, hF, hnew⟩ => by
    rw [h1] at hv
    have hv' := hv
    obtain ⟨a, cap, pb, po, hv2, hle, hp, hc⟩ := hv
    obtain rfl := hp (by omega)
    subst hv2
    have hb := hnew _ _ _ rfl
    have hlt := World.block_lt_of_cell? w' _ (hc 0 (by omega))
    rw [hk] at he hv'
    refine ⟨pb, po, cap, he, hv', (IxAt.fr h hF fun _ _ _ f => f).mono fun q hq => ⟨hq.1, Nat.lt_of_lt_of_le hq.2.1 hF.size, fun hm => ?_⟩, h0.trans' hF, hF.zero, fun q hq => ?_⟩
    · rcases List.mem_cons.1 hm with rfl | hm
      · have := hq.2.1; simp only at hb; omega
      · exact hq.2.2 hm
    · rcases List.mem_cons.1 hq with rfl | hq
      · exact hlt
      · exact Nat.lt_of_lt_of_le (hN q hq) hF.size
theorem rows_n (n : Int) (h1 : (L.length : Int) = n) (h : IxN N B w g L) :
    Calls Try.prog 15 #[.pointer (some ⟨g, 0, none⟩)] w fun e w' => e = .returned (.int .i64 n) ∧ w' = w := by
  rw [← h1]
  exact irows_any _ g L w h
theorem new_n (B : Nat) (w w0 : World) (h0 : Fr0 w0 w) (hB : w0.heap.size = B) :
    Calls Try.prog 7 #[] w fun e w' => ∃ g, e = .returned (.pointer (some ⟨g, 0, none⟩)) ∧ After [] B w0 w g [] w' :=
  (inew_any w).mono fun e w' ⟨g, he, hI, hF⟩ => ⟨g, he, hI.mono (fun k hk => ⟨by have := h0.size; omega, hk.2, by simp⟩), h0.trans' hF, hF.zero, fun k hk => by cases hk⟩
end
theorem ints_lit (w : World) (cs : Array Value) (l : List Int) (h : cs.toList = l.map fun n => .int .i64 n) (t : TypeId) (N k : Nat) (hN : N = w.heap.size) (hk : k = l.length) : IntsIs (w.alloc (.cells cs t)) (.slice (some ⟨N, 0, none⟩) k k) l := by
  subst hN hk
  refine ⟨_, l.length, w.heap.size, 0, rfl, Nat.le_refl _, fun _ => rfl, fun j hj => ?_⟩
  rw [Nat.zero_add, cell_of_row _ _ _ _ _ _ (heap_alloc_new w _), ← Array.getElem?_toList, h]
  simp [hj]
set_option maxRecDepth 100000 in
set_option maxHeartbeats 16000000 in
theorem indexKnown_walk (w : World) : Calls Try.prog 3 #[] w fun e w' => e = .returned (.bool true) ∧ Fr0 w w' := by
  go_enter Try.func3, Try.ntmps3
  go_wp2_with fail
  refine (awake_any w).mono ?_
  rintro e w0 ⟨rfl, hF⟩
  have HF0 := Lib.hid hF
  have HI0 := HF0
  have HN0 := HF0
  clear hF
  have HC1 := Lib.hid (new_n w.heap.size w0 w HF0.out rfl)
  go_wp2_with fail
  refine HC1.out.mono ?_
  rintro e w1 ⟨g, rfl, hAf⟩
  obtain ⟨hI, hF, hFN, hN⟩ := hAf
  have HI1 : Hid (IxN [] w.heap.size w1 g []) := Lib.hid hI
  have HF1 := Lib.hid hF
  have HN1 := Lib.hid hN
  clear hI hF hFN hN HC1
  clear HI0 HF0 HN0
  have HC2 := Lib.hid (add_n (L := []) (⟨⟨#[]⟩, ⟨#[]⟩, 0, 0, false⟩ : En) 1 [] rfl rfl HI1.out HF1.out rfl HN1.out (by decide) (by decide))
  go_wp2_with fail
  refine HC2.out.mono ?_
  rintro e w2 ⟨rfl, hAf⟩
  obtain ⟨hI, hF, hFN, hN⟩ := hAf
  have HI2 : Hid (IxN [] w.heap.size w2 g []) := Lib.hid hI
  have HF2 := Lib.hid hF
  have HN2 := Lib.hid hN
  clear hI hF hFN hN HC2
  clear HI1 HF1 HN1
  have HC3 := Lib.hid (add_n (L := []) (⟨⟨#[97]⟩, ⟨#[115]⟩, 0, 5, false⟩ : En) 0 [(⟨⟨#[97]⟩, ⟨#[115]⟩, 0, 5, false⟩ : En)] rfl rfl HI2.out HF2.out rfl HN2.out (by decide) (by decide))
  go_wp2_with fail
  refine HC3.out.mono ?_
  rintro e w3 ⟨rfl, hAf⟩
  obtain ⟨hI, hF, hFN, hN⟩ := hAf
  have HI3 : Hid (IxN [] w.heap.size w3 g [(⟨⟨#[97]⟩, ⟨#[115]⟩, 0, 5, false⟩ : En)]) := Lib.hid hI
  have HF3 := Lib.hid hF
  have HN3 := Lib.hid hN
  clear hI hF hFN hN HC3
  clear HI2 HF2 HN2
  have HC4 := Lib.hid (add_n (L := [(⟨⟨#[97]⟩, ⟨#[115]⟩, 0, 5, false⟩ : En)]) (⟨⟨#[97]⟩, ⟨#[]⟩, 0, 0, false⟩ : En) 6 [(⟨⟨#[97]⟩, ⟨#[115]⟩, 0, 5, false⟩ : En)] rfl rfl HI3.out HF3.out rfl HN3.out (by decide) (by decide))
  go_wp2_with fail
  refine HC4.out.mono ?_
  rintro e w4 ⟨rfl, hAf⟩
  obtain ⟨hI, hF, hFN, hN⟩ := hAf
  have HI4 : Hid (IxN [] w.heap.size w4 g [(⟨⟨#[97]⟩, ⟨#[115]⟩, 0, 5, false⟩ : En)]) := Lib.hid hI
  have HF4 := Lib.hid hF
  have HN4 := Lib.hid hN
  clear hI hF hFN hN HC4
  clear HI3 HF3 HN3
  have HC5 := Lib.hid (add_n (L := [(⟨⟨#[97]⟩, ⟨#[115]⟩, 0, 5, false⟩ : En)]) (⟨⟨#[98]⟩, ⟨#[116]⟩, 0, 7, false⟩ : En) 0 [(⟨⟨#[97]⟩, ⟨#[115]⟩, 0, 5, false⟩ : En), (⟨⟨#[98]⟩, ⟨#[116]⟩, 0, 7, false⟩ : En)] rfl rfl HI4.out HF4.out rfl HN4.out (by decide) (by decide))
  go_wp2_with fail
  refine HC5.out.mono ?_
  rintro e w5 ⟨rfl, hAf⟩
  obtain ⟨hI, hF, hFN, hN⟩ := hAf
  have HI5 : Hid (IxN [] w.heap.size w5 g [(⟨⟨#[97]⟩, ⟨#[115]⟩, 0, 5, false⟩ : En), (⟨⟨#[98]⟩, ⟨#[116]⟩, 0, 7, false⟩ : En)]) := Lib.hid hI
  have HF5 := Lib.hid hF
  have HN5 := Lib.hid hN
  clear hI hF hFN hN HC5
  clear HI4 HF4 HN4
  have HC6 := Lib.hid (add_n (L := [(⟨⟨#[97]⟩, ⟨#[115]⟩, 0, 5, false⟩ : En), (⟨⟨#[98]⟩, ⟨#[116]⟩, 0, 7, false⟩ : En)]) (⟨⟨#[99]⟩, ⟨#[115]⟩, 0, 9, false⟩ : En) 0 [(⟨⟨#[97]⟩, ⟨#[115]⟩, 0, 5, false⟩ : En), (⟨⟨#[98]⟩, ⟨#[116]⟩, 0, 7, false⟩ : En), (⟨⟨#[99]⟩, ⟨#[115]⟩, 0, 9, false⟩ : En)] rfl rfl HI5.out HF5.out rfl HN5.out (by decide) (by decide))
  go_wp2_with fail
  refine HC6.out.mono ?_
  rintro e w6 ⟨rfl, hAf⟩
  obtain ⟨hI, hF, hFN, hN⟩ := hAf
  have HI6 : Hid (IxN [] w.heap.size w6 g [(⟨⟨#[97]⟩, ⟨#[115]⟩, 0, 5, false⟩ : En), (⟨⟨#[98]⟩, ⟨#[116]⟩, 0, 7, false⟩ : En), (⟨⟨#[99]⟩, ⟨#[115]⟩, 0, 9, false⟩ : En)]) := Lib.hid hI
  have HF6 := Lib.hid hF
  have HN6 := Lib.hid hN
  clear hI hF hFN hN HC6
  clear HI5 HF5 HN5
  have HC7 := Lib.hid (of_n (L := [(⟨⟨#[97]⟩, ⟨#[115]⟩, 0, 5, false⟩ : En), (⟨⟨#[98]⟩, ⟨#[116]⟩, 0, 7, false⟩ : En), (⟨⟨#[99]⟩, ⟨#[115]⟩, 0, 9, false⟩ : En)]) ⟨#[115]⟩ [0, 2] 2 rfl rfl (by decide) HI6.out HF6.out HN6.out)
  go_wp2_with fail
  refine HC7.out.mono ?_
  rintro e w7 ⟨ob, obo, obc, rfl, hin, hAf⟩
  have HK_ob := Lib.hid hin
  clear hin
  obtain ⟨hI, hF, hFN, hN⟩ := hAf
  have HI7 : Hid (IxN [ob] w.heap.size w7 g [(⟨⟨#[97]⟩, ⟨#[115]⟩, 0, 5, false⟩ : En), (⟨⟨#[98]⟩, ⟨#[116]⟩, 0, 7, false⟩ : En), (⟨⟨#[99]⟩, ⟨#[115]⟩, 0, 9, false⟩ : En)]) := Lib.hid hI
  have HF7 := Lib.hid hF
  have HN7 := Lib.hid hN
  clear hI hF hFN hN HC7
  clear HI6 HF6 HN6
  have HC8 := Lib.hid (touch_n (L := [(⟨⟨#[97]⟩, ⟨#[115]⟩, 0, 5, false⟩ : En), (⟨⟨#[98]⟩, ⟨#[116]⟩, 0, 7, false⟩ : En), (⟨⟨#[99]⟩, ⟨#[115]⟩, 0, 9, false⟩ : En)]) ⟨#[98]⟩ true [(⟨⟨#[97]⟩, ⟨#[115]⟩, 0, 5, false⟩ : En), (⟨⟨#[98]⟩, ⟨#[116]⟩, 0, 7, true⟩ : En), (⟨⟨#[99]⟩, ⟨#[115]⟩, 0, 9, false⟩ : En)] rfl rfl HI7.out HF7.out rfl HN7.out)
  go_wp2_with fail
  refine HC8.out.mono ?_
  rintro e w8 ⟨rfl, hAf⟩
  obtain ⟨hI, hF, hFN, hN⟩ := hAf
  have HK_ob := Lib.hid (FrN.intsN hFN (by simp) HK_ob.out)
  have HI8 : Hid (IxN [ob] w.heap.size w8 g [(⟨⟨#[97]⟩, ⟨#[115]⟩, 0, 5, false⟩ : En), (⟨⟨#[98]⟩, ⟨#[116]⟩, 0, 7, true⟩ : En), (⟨⟨#[99]⟩, ⟨#[115]⟩, 0, 9, false⟩ : En)]) := Lib.hid hI
  have HF8 := Lib.hid hF
  have HN8 := Lib.hid hN
  clear hI hF hFN hN HC8
  clear HI7 HF7 HN7
  have HC9 := Lib.hid (touch_n (L := [(⟨⟨#[97]⟩, ⟨#[115]⟩, 0, 5, false⟩ : En), (⟨⟨#[98]⟩, ⟨#[116]⟩, 0, 7, true⟩ : En), (⟨⟨#[99]⟩, ⟨#[115]⟩, 0, 9, false⟩ : En)]) ⟨#[122]⟩ false [(⟨⟨#[97]⟩, ⟨#[115]⟩, 0, 5, false⟩ : En), (⟨⟨#[98]⟩, ⟨#[116]⟩, 0, 7, true⟩ : En), (⟨⟨#[99]⟩, ⟨#[115]⟩, 0, 9, false⟩ : En)] rfl rfl HI8.out HF8.out rfl HN8.out)
  go_wp2_with fail
  refine HC9.out.mono ?_
  rintro e w9 ⟨rfl, hAf⟩
  obtain ⟨hI, hF, hFN, hN⟩ := hAf
  have HK_ob := Lib.hid (FrN.intsN hFN (by simp) HK_ob.out)
  have HI9 : Hid (IxN [ob] w.heap.size w9 g [(⟨⟨#[97]⟩, ⟨#[115]⟩, 0, 5, false⟩ : En), (⟨⟨#[98]⟩, ⟨#[116]⟩, 0, 7, true⟩ : En), (⟨⟨#[99]⟩, ⟨#[115]⟩, 0, 9, false⟩ : En)]) := Lib.hid hI
  have HF9 := Lib.hid hF
  have HN9 := Lib.hid hN
  clear hI hF hFN hN HC9
  clear HI8 HF8 HN8
  have HC10 := Lib.hid (set_n (L := [(⟨⟨#[97]⟩, ⟨#[115]⟩, 0, 5, false⟩ : En), (⟨⟨#[98]⟩, ⟨#[116]⟩, 0, 7, true⟩ : En), (⟨⟨#[99]⟩, ⟨#[115]⟩, 0, 9, false⟩ : En)]) 0 (by unfold inI64; omega) true true [(⟨⟨#[97]⟩, ⟨#[115]⟩, 0, 5, true⟩ : En), (⟨⟨#[98]⟩, ⟨#[116]⟩, 0, 7, true⟩ : En), (⟨⟨#[99]⟩, ⟨#[115]⟩, 0, 9, false⟩ : En)] rfl rfl HI9.out HF9.out rfl HN9.out)
  go_wp2_with fail
  refine HC10.out.mono ?_
  rintro e w10 ⟨rfl, hAf⟩
  obtain ⟨hI, hF, hFN, hN⟩ := hAf
  have HK_ob := Lib.hid (FrN.intsN hFN (by simp) HK_ob.out)
  have HI10 : Hid (IxN [ob] w.heap.size w10 g [(⟨⟨#[97]⟩, ⟨#[115]⟩, 0, 5, true⟩ : En), (⟨⟨#[98]⟩, ⟨#[116]⟩, 0, 7, true⟩ : En), (⟨⟨#[99]⟩, ⟨#[115]⟩, 0, 9, false⟩ : En)]) := Lib.hid hI
  have HF10 := Lib.hid hF
  have HN10 := Lib.hid hN
  clear hI hF hFN hN HC10
  clear HI9 HF9 HN9
  have HC11 := Lib.hid (set_n (L := [(⟨⟨#[97]⟩, ⟨#[115]⟩, 0, 5, true⟩ : En), (⟨⟨#[98]⟩, ⟨#[116]⟩, 0, 7, true⟩ : En), (⟨⟨#[99]⟩, ⟨#[115]⟩, 0, 9, false⟩ : En)]) 3 (by unfold inI64; omega) true false [(⟨⟨#[97]⟩, ⟨#[115]⟩, 0, 5, true⟩ : En), (⟨⟨#[98]⟩, ⟨#[116]⟩, 0, 7, true⟩ : En), (⟨⟨#[99]⟩, ⟨#[115]⟩, 0, 9, false⟩ : En)] rfl rfl HI10.out HF10.out rfl HN10.out)
  go_wp2_with fail
  refine HC11.out.mono ?_
  rintro e w11 ⟨rfl, hAf⟩
  obtain ⟨hI, hF, hFN, hN⟩ := hAf
  have HK_ob := Lib.hid (FrN.intsN hFN (by simp) HK_ob.out)
  have HI11 : Hid (IxN [ob] w.heap.size w11 g [(⟨⟨#[97]⟩, ⟨#[115]⟩, 0, 5, true⟩ : En), (⟨⟨#[98]⟩, ⟨#[116]⟩, 0, 7, true⟩ : En), (⟨⟨#[99]⟩, ⟨#[115]⟩, 0, 9, false⟩ : En)]) := Lib.hid hI
  have HF11 := Lib.hid hF
  have HN11 := Lib.hid hN
  clear hI hF hFN hN HC11
  clear HI10 HF10 HN10
  have HC12 := Lib.hid (at_n (L := [(⟨⟨#[97]⟩, ⟨#[115]⟩, 0, 5, true⟩ : En), (⟨⟨#[98]⟩, ⟨#[116]⟩, 0, 7, true⟩ : En), (⟨⟨#[99]⟩, ⟨#[115]⟩, 0, 9, false⟩ : En)]) 1 (by unfold inI64; omega) (⟨⟨#[98]⟩, ⟨#[116]⟩, 0, 7, true⟩ : En) true rfl rfl HI11.out HF11.out HN11.out)
  rw [show e5 (⟨⟨#[98]⟩, ⟨#[116]⟩, 0, 7, true⟩ : En) = #[.string ⟨#[98]⟩, .string ⟨#[116]⟩, .int .i64 0, .int .i64 7, .bool true] from rfl] at HC12
  go_wp2_with fail
  refine HC12.out.mono ?_
  rintro e w12 ⟨rfl, hAf⟩
  obtain ⟨hI, hF, hFN, hN⟩ := hAf
  have HK_ob := Lib.hid (FrN.intsN hFN (by simp) HK_ob.out)
  have HI12 : Hid (IxN [ob] w.heap.size w12 g [(⟨⟨#[97]⟩, ⟨#[115]⟩, 0, 5, true⟩ : En), (⟨⟨#[98]⟩, ⟨#[116]⟩, 0, 7, true⟩ : En), (⟨⟨#[99]⟩, ⟨#[115]⟩, 0, 9, false⟩ : En)]) := Lib.hid hI
  have HF12 := Lib.hid hF
  have HN12 := Lib.hid hN
  clear hI hF hFN hN HC12
  clear HI11 HF11 HN11
  obtain ⟨hI, hF, hFN, hN⟩ := own_n (.cells #[.string ⟨#[98]⟩, .string ⟨#[116]⟩, .int .i64 0, .int .i64 7, .bool true] 28) HI12.out HF12.out HN12.out
  have HK_ob := Lib.hid (FrN.intsN hFN (by simp) HK_ob.out)
  have HK_hb0 : Hid ((w12.alloc (.cells #[.string ⟨#[98]⟩, .string ⟨#[116]⟩, .int .i64 0, .int .i64 7, .bool true] 28)).cell? ⟨w12.heap.size, 0, none⟩ = some (.string ⟨#[98]⟩)) := Lib.hid (by rw [cell_of_row _ _ _ _ _ _ (heap_alloc_new w12 _)]; rfl)
  have HK_hb4 : Hid ((w12.alloc (.cells #[.string ⟨#[98]⟩, .string ⟨#[116]⟩, .int .i64 0, .int .i64 7, .bool true] 28)).cell? ⟨w12.heap.size, 4, none⟩ = some (.bool true)) := Lib.hid (by rw [cell_of_row _ _ _ _ _ _ (heap_alloc_new w12 _)]; rfl)
  have HI13 : Hid (IxN [w12.heap.size, ob] w.heap.size (w12.alloc (.cells #[.string ⟨#[98]⟩, .string ⟨#[116]⟩, .int .i64 0, .int .i64 7, .bool true] 28)) g [(⟨⟨#[97]⟩, ⟨#[115]⟩, 0, 5, true⟩ : En), (⟨⟨#[98]⟩, ⟨#[116]⟩, 0, 7, true⟩ : En), (⟨⟨#[99]⟩, ⟨#[115]⟩, 0, 9, false⟩ : En)]) := Lib.hid hI
  have HF13 := Lib.hid hF
  have HN13 : Hid (∀ k ∈ [w12.heap.size, ob], k < (w12.alloc (.cells #[.string ⟨#[98]⟩, .string ⟨#[116]⟩, .int .i64 0, .int .i64 7, .bool true] 28)).heap.size) := Lib.hid hN
  clear hI hF hFN hN HI12 HF12 HN12
  go_wp2_with fail
  obtain ⟨hb, hhb⟩ : ∃ hb, w12.heap.size = hb := ⟨_, rfl⟩
  have HZ_hb : Hid ((w12.alloc (.cells #[.string ⟨#[98]⟩, .string ⟨#[116]⟩, .int .i64 0, .int .i64 7, .bool true] 28)).heap.size = hb + 1) := Lib.hid (by rw [World.size_alloc, hhb])
  rw [hhb] at HI13 HN13 HK_hb0 HK_hb4 ⊢
  clear hhb
  generalize w12.alloc (.cells #[.string ⟨#[98]⟩, .string ⟨#[116]⟩, .int .i64 0, .int .i64 7, .bool true] 28) = w13 at *
  have HC14 := Lib.hid (live_n (L := [(⟨⟨#[97]⟩, ⟨#[115]⟩, 0, 5, true⟩ : En), (⟨⟨#[98]⟩, ⟨#[116]⟩, 0, 7, true⟩ : En), (⟨⟨#[99]⟩, ⟨#[115]⟩, 0, 9, false⟩ : En)]) 21 (by decide) rfl HI13.out HF13.out HN13.out)
  refine HC14.out.mono ?_
  rintro e w14 ⟨rfl, hAf⟩
  obtain ⟨hI, hF, hFN, hN⟩ := hAf
  have HK_ob := Lib.hid (FrN.intsN hFN (by simp) HK_ob.out)
  have HK_hb0 := Lib.hid (FrN.cellN hFN (by simp) HK_hb0.out)
  have HK_hb4 := Lib.hid (FrN.cellN hFN (by simp) HK_hb4.out)
  have HI14 : Hid (IxN [hb, ob] w.heap.size w14 g [(⟨⟨#[97]⟩, ⟨#[115]⟩, 0, 5, true⟩ : En), (⟨⟨#[98]⟩, ⟨#[116]⟩, 0, 7, true⟩ : En), (⟨⟨#[99]⟩, ⟨#[115]⟩, 0, 9, false⟩ : En)]) := Lib.hid hI
  have HF14 := Lib.hid hF
  have HN14 := Lib.hid hN
  clear hI hF hFN hN HC14
  clear HI13 HF13 HN13
  have HC15 := Lib.hid (drop_n (L := [(⟨⟨#[97]⟩, ⟨#[115]⟩, 0, 5, true⟩ : En), (⟨⟨#[98]⟩, ⟨#[116]⟩, 0, 7, true⟩ : En), (⟨⟨#[99]⟩, ⟨#[115]⟩, 0, 9, false⟩ : En)]) 1 (by unfold inI64; omega) (⟨⟨#[98]⟩, ⟨#[116]⟩, 0, 7, true⟩ : En) true [(⟨⟨#[97]⟩, ⟨#[115]⟩, 0, 5, true⟩ : En), zeroE, (⟨⟨#[99]⟩, ⟨#[115]⟩, 0, 9, false⟩ : En)] rfl rfl rfl HI14.out HF14.out rfl HN14.out)
  rw [show e5 (⟨⟨#[98]⟩, ⟨#[116]⟩, 0, 7, true⟩ : En) = #[.string ⟨#[98]⟩, .string ⟨#[116]⟩, .int .i64 0, .int .i64 7, .bool true] from rfl] at HC15
  go_wp2_with fail
  refine HC15.out.mono ?_
  rintro e w15 ⟨rfl, hAf⟩
  obtain ⟨hI, hF, hFN, hN⟩ := hAf
  have HK_ob := Lib.hid (FrN.intsN hFN (by simp) HK_ob.out)
  have HK_hb0 := Lib.hid (FrN.cellN hFN (by simp) HK_hb0.out)
  have HK_hb4 := Lib.hid (FrN.cellN hFN (by simp) HK_hb4.out)
  have HI15 : Hid (IxN [hb, ob] w.heap.size w15 g [(⟨⟨#[97]⟩, ⟨#[115]⟩, 0, 5, true⟩ : En), zeroE, (⟨⟨#[99]⟩, ⟨#[115]⟩, 0, 9, false⟩ : En)]) := Lib.hid hI
  have HF15 := Lib.hid hF
  have HN15 := Lib.hid hN
  clear hI hF hFN hN HC15
  clear HI14 HF14 HN14
  have HC16 := Lib.hid (rows_n (L := [(⟨⟨#[97]⟩, ⟨#[115]⟩, 0, 5, true⟩ : En), zeroE, (⟨⟨#[99]⟩, ⟨#[115]⟩, 0, 9, false⟩ : En)]) 3 rfl HI15.out)
  go_wp2_with fail
  refine HC16.out.mono ?_
  rintro e w16 ⟨rfl, rfl⟩
  have HI16 := HI15
  have HF16 := HF15
  have HN16 := HN15
  clear HC16 HI15 HF15 HN15
  have HC17 := Lib.hid (drop_n (L := [(⟨⟨#[97]⟩, ⟨#[115]⟩, 0, 5, true⟩ : En), zeroE, (⟨⟨#[99]⟩, ⟨#[115]⟩, 0, 9, false⟩ : En)]) 2 (by unfold inI64; omega) (⟨⟨#[99]⟩, ⟨#[115]⟩, 0, 9, false⟩ : En) true [(⟨⟨#[97]⟩, ⟨#[115]⟩, 0, 5, true⟩ : En)] rfl rfl rfl HI16.out HF16.out rfl HN16.out)
  rw [show e5 (⟨⟨#[99]⟩, ⟨#[115]⟩, 0, 9, false⟩ : En) = #[.string ⟨#[99]⟩, .string ⟨#[115]⟩, .int .i64 0, .int .i64 9, .bool false] from rfl] at HC17
  go_wp2_with fail
  refine HC17.out.mono ?_
  rintro e w17 ⟨rfl, hAf⟩
  obtain ⟨hI, hF, hFN, hN⟩ := hAf
  have HK_ob := Lib.hid (FrN.intsN hFN (by simp) HK_ob.out)
  have HK_hb0 := Lib.hid (FrN.cellN hFN (by simp) HK_hb0.out)
  have HK_hb4 := Lib.hid (FrN.cellN hFN (by simp) HK_hb4.out)
  have HI17 : Hid (IxN [hb, ob] w.heap.size w17 g [(⟨⟨#[97]⟩, ⟨#[115]⟩, 0, 5, true⟩ : En)]) := Lib.hid hI
  have HF17 := Lib.hid hF
  have HN17 := Lib.hid hN
  clear hI hF hFN hN HC17
  clear HI16 HF16 HN16
  obtain ⟨hI, hF, hFN, hN⟩ := own_n (.cells #[.string ⟨#[99]⟩, .string ⟨#[115]⟩, .int .i64 0, .int .i64 9, .bool false] 28) HI17.out HF17.out HN17.out
  have HK_ob := Lib.hid (FrN.intsN hFN (by simp) HK_ob.out)
  have HK_hb0 := Lib.hid (FrN.cellN hFN (by simp) HK_hb0.out)
  have HK_hb4 := Lib.hid (FrN.cellN hFN (by simp) HK_hb4.out)
  have HK_kb0 : Hid ((w17.alloc (.cells #[.string ⟨#[99]⟩, .string ⟨#[115]⟩, .int .i64 0, .int .i64 9, .bool false] 28)).cell? ⟨w17.heap.size, 0, none⟩ = some (.string ⟨#[99]⟩)) := Lib.hid (by rw [cell_of_row _ _ _ _ _ _ (heap_alloc_new w17 _)]; rfl)
  have HI18 : Hid (IxN [w17.heap.size, hb, ob] w.heap.size (w17.alloc (.cells #[.string ⟨#[99]⟩, .string ⟨#[115]⟩, .int .i64 0, .int .i64 9, .bool false] 28)) g [(⟨⟨#[97]⟩, ⟨#[115]⟩, 0, 5, true⟩ : En)]) := Lib.hid hI
  have HF18 := Lib.hid hF
  have HN18 : Hid (∀ k ∈ [w17.heap.size, hb, ob], k < (w17.alloc (.cells #[.string ⟨#[99]⟩, .string ⟨#[115]⟩, .int .i64 0, .int .i64 9, .bool false] 28)).heap.size) := Lib.hid hN
  clear hI hF hFN hN HI17 HF17 HN17
  go_wp2_with fail
  obtain ⟨kb, hkb⟩ : ∃ kb, w17.heap.size = kb := ⟨_, rfl⟩
  have HZ_kb : Hid ((w17.alloc (.cells #[.string ⟨#[99]⟩, .string ⟨#[115]⟩, .int .i64 0, .int .i64 9, .bool false] 28)).heap.size = kb + 1) := Lib.hid (by rw [World.size_alloc, hkb])
  rw [hkb] at HI18 HN18 HK_kb0 ⊢
  clear hkb
  generalize w17.alloc (.cells #[.string ⟨#[99]⟩, .string ⟨#[115]⟩, .int .i64 0, .int .i64 9, .bool false] 28) = w18 at *
  have HC19 := Lib.hid (drop_n (L := [(⟨⟨#[97]⟩, ⟨#[115]⟩, 0, 5, true⟩ : En)]) 2 (by unfold inI64; omega) zeroE false [(⟨⟨#[97]⟩, ⟨#[115]⟩, 0, 5, true⟩ : En)] rfl rfl rfl HI18.out HF18.out rfl HN18.out)
  rw [show e5 zeroE = #[.string ⟨#[]⟩, .string ⟨#[]⟩, .int .i64 0, .int .i64 0, .bool false] from rfl] at HC19
  refine HC19.out.mono ?_
  rintro e w19 ⟨rfl, hAf⟩
  obtain ⟨hI, hF, hFN, hN⟩ := hAf
  have HK_ob := Lib.hid (FrN.intsN hFN (by simp) HK_ob.out)
  have HK_hb0 := Lib.hid (FrN.cellN hFN (by simp) HK_hb0.out)
  have HK_hb4 := Lib.hid (FrN.cellN hFN (by simp) HK_hb4.out)
  have HK_kb0 := Lib.hid (FrN.cellN hFN (by simp) HK_kb0.out)
  have HI19 : Hid (IxN [kb, hb, ob] w.heap.size w19 g [(⟨⟨#[97]⟩, ⟨#[115]⟩, 0, 5, true⟩ : En)]) := Lib.hid hI
  have HF19 := Lib.hid hF
  have HN19 := Lib.hid hN
  clear hI hF hFN hN HC19
  clear HI18 HF18 HN18
  obtain ⟨hI, hF, hFN, hN⟩ := own_n (.cells #[.string ⟨#[]⟩, .string ⟨#[]⟩, .int .i64 0, .int .i64 0, .bool false] 28) HI19.out HF19.out HN19.out
  have HK_ob := Lib.hid (FrN.intsN hFN (by simp) HK_ob.out)
  have HK_hb0 := Lib.hid (FrN.cellN hFN (by simp) HK_hb0.out)
  have HK_hb4 := Lib.hid (FrN.cellN hFN (by simp) HK_hb4.out)
  have HK_kb0 := Lib.hid (FrN.cellN hFN (by simp) HK_kb0.out)
  have HI20 : Hid (IxN [w19.heap.size, kb, hb, ob] w.heap.size (w19.alloc (.cells #[.string ⟨#[]⟩, .string ⟨#[]⟩, .int .i64 0, .int .i64 0, .bool false] 28)) g [(⟨⟨#[97]⟩, ⟨#[115]⟩, 0, 5, true⟩ : En)]) := Lib.hid hI
  have HF20 := Lib.hid hF
  have HN20 : Hid (∀ k ∈ [w19.heap.size, kb, hb, ob], k < (w19.alloc (.cells #[.string ⟨#[]⟩, .string ⟨#[]⟩, .int .i64 0, .int .i64 0, .bool false] 28)).heap.size) := Lib.hid hN
  clear hI hF hFN hN HI19 HF19 HN19
  go_wp2_with fail
  obtain ⟨mb, hmb⟩ : ∃ mb, w19.heap.size = mb := ⟨_, rfl⟩
  have HZ_mb : Hid ((w19.alloc (.cells #[.string ⟨#[]⟩, .string ⟨#[]⟩, .int .i64 0, .int .i64 0, .bool false] 28)).heap.size = mb + 1) := Lib.hid (by rw [World.size_alloc, hmb])
  rw [hmb] at HI20 HN20 ⊢
  clear hmb
  generalize w19.alloc (.cells #[.string ⟨#[]⟩, .string ⟨#[]⟩, .int .i64 0, .int .i64 0, .bool false] 28) = w20 at *
  have HC21 := Lib.hid (drop_n (L := [(⟨⟨#[97]⟩, ⟨#[115]⟩, 0, 5, true⟩ : En)]) (-1) (by unfold inI64; omega) zeroE false [(⟨⟨#[97]⟩, ⟨#[115]⟩, 0, 5, true⟩ : En)] rfl rfl rfl HI20.out HF20.out rfl HN20.out)
  rw [show e5 zeroE = #[.string ⟨#[]⟩, .string ⟨#[]⟩, .int .i64 0, .int .i64 0, .bool false] from rfl] at HC21
  refine HC21.out.mono ?_
  rintro e w21 ⟨rfl, hAf⟩
  obtain ⟨hI, hF, hFN, hN⟩ := hAf
  have HK_ob := Lib.hid (FrN.intsN hFN (by simp) HK_ob.out)
  have HK_hb0 := Lib.hid (FrN.cellN hFN (by simp) HK_hb0.out)
  have HK_hb4 := Lib.hid (FrN.cellN hFN (by simp) HK_hb4.out)
  have HK_kb0 := Lib.hid (FrN.cellN hFN (by simp) HK_kb0.out)
  have HI21 : Hid (IxN [mb, kb, hb, ob] w.heap.size w21 g [(⟨⟨#[97]⟩, ⟨#[115]⟩, 0, 5, true⟩ : En)]) := Lib.hid hI
  have HF21 := Lib.hid hF
  have HN21 := Lib.hid hN
  clear hI hF hFN hN HC21
  clear HI20 HF20 HN20
  obtain ⟨hI, hF, hFN, hN⟩ := own_n (.cells #[.string ⟨#[]⟩, .string ⟨#[]⟩, .int .i64 0, .int .i64 0, .bool false] 28) HI21.out HF21.out HN21.out
  have HK_ob := Lib.hid (FrN.intsN hFN (by simp) HK_ob.out)
  have HK_hb0 := Lib.hid (FrN.cellN hFN (by simp) HK_hb0.out)
  have HK_hb4 := Lib.hid (FrN.cellN hFN (by simp) HK_hb4.out)
  have HK_kb0 := Lib.hid (FrN.cellN hFN (by simp) HK_kb0.out)
  have HI22 : Hid (IxN [w21.heap.size, mb, kb, hb, ob] w.heap.size (w21.alloc (.cells #[.string ⟨#[]⟩, .string ⟨#[]⟩, .int .i64 0, .int .i64 0, .bool false] 28)) g [(⟨⟨#[97]⟩, ⟨#[115]⟩, 0, 5, true⟩ : En)]) := Lib.hid hI
  have HF22 := Lib.hid hF
  have HN22 : Hid (∀ k ∈ [w21.heap.size, mb, kb, hb, ob], k < (w21.alloc (.cells #[.string ⟨#[]⟩, .string ⟨#[]⟩, .int .i64 0, .int .i64 0, .bool false] 28)).heap.size) := Lib.hid hN
  clear hI hF hFN hN HI21 HF21 HN21
  go_wp2_with fail
  obtain ⟨nb, hnb⟩ : ∃ nb, w21.heap.size = nb := ⟨_, rfl⟩
  have HZ_nb : Hid ((w21.alloc (.cells #[.string ⟨#[]⟩, .string ⟨#[]⟩, .int .i64 0, .int .i64 0, .bool false] 28)).heap.size = nb + 1) := Lib.hid (by rw [World.size_alloc, hnb])
  rw [hnb] at HI22 HN22 ⊢
  clear hnb
  generalize w21.alloc (.cells #[.string ⟨#[]⟩, .string ⟨#[]⟩, .int .i64 0, .int .i64 0, .bool false] 28) = w22 at *
  have HC23 := Lib.hid (at_n (L := [(⟨⟨#[97]⟩, ⟨#[115]⟩, 0, 5, true⟩ : En)]) 1 (by unfold inI64; omega) zeroE false rfl rfl HI22.out HF22.out HN22.out)
  rw [show e5 zeroE = #[.string ⟨#[]⟩, .string ⟨#[]⟩, .int .i64 0, .int .i64 0, .bool false] from rfl] at HC23
  refine HC23.out.mono ?_
  rintro e w23 ⟨rfl, hAf⟩
  obtain ⟨hI, hF, hFN, hN⟩ := hAf
  have HK_ob := Lib.hid (FrN.intsN hFN (by simp) HK_ob.out)
  have HK_hb0 := Lib.hid (FrN.cellN hFN (by simp) HK_hb0.out)
  have HK_hb4 := Lib.hid (FrN.cellN hFN (by simp) HK_hb4.out)
  have HK_kb0 := Lib.hid (FrN.cellN hFN (by simp) HK_kb0.out)
  have HI23 : Hid (IxN [nb, mb, kb, hb, ob] w.heap.size w23 g [(⟨⟨#[97]⟩, ⟨#[115]⟩, 0, 5, true⟩ : En)]) := Lib.hid hI
  have HF23 := Lib.hid hF
  have HN23 := Lib.hid hN
  clear hI hF hFN hN HC23
  clear HI22 HF22 HN22
  obtain ⟨hI, hF, hFN, hN⟩ := own_n (.cells #[.string ⟨#[]⟩, .string ⟨#[]⟩, .int .i64 0, .int .i64 0, .bool false] 28) HI23.out HF23.out HN23.out
  have HK_ob := Lib.hid (FrN.intsN hFN (by simp) HK_ob.out)
  have HK_hb0 := Lib.hid (FrN.cellN hFN (by simp) HK_hb0.out)
  have HK_hb4 := Lib.hid (FrN.cellN hFN (by simp) HK_hb4.out)
  have HK_kb0 := Lib.hid (FrN.cellN hFN (by simp) HK_kb0.out)
  have HI24 : Hid (IxN [w23.heap.size, nb, mb, kb, hb, ob] w.heap.size (w23.alloc (.cells #[.string ⟨#[]⟩, .string ⟨#[]⟩, .int .i64 0, .int .i64 0, .bool false] 28)) g [(⟨⟨#[97]⟩, ⟨#[115]⟩, 0, 5, true⟩ : En)]) := Lib.hid hI
  have HF24 := Lib.hid hF
  have HN24 : Hid (∀ k ∈ [w23.heap.size, nb, mb, kb, hb, ob], k < (w23.alloc (.cells #[.string ⟨#[]⟩, .string ⟨#[]⟩, .int .i64 0, .int .i64 0, .bool false] 28)).heap.size) := Lib.hid hN
  clear hI hF hFN hN HI23 HF23 HN23
  go_wp2_with fail
  obtain ⟨pb, hpb⟩ : ∃ pb, w23.heap.size = pb := ⟨_, rfl⟩
  have HZ_pb : Hid ((w23.alloc (.cells #[.string ⟨#[]⟩, .string ⟨#[]⟩, .int .i64 0, .int .i64 0, .bool false] 28)).heap.size = pb + 1) := Lib.hid (by rw [World.size_alloc, hpb])
  rw [hpb] at HI24 HN24 ⊢
  clear hpb
  generalize w23.alloc (.cells #[.string ⟨#[]⟩, .string ⟨#[]⟩, .int .i64 0, .int .i64 0, .bool false] 28) = w24 at *
  have HAL := Lib.hid (alike_any (.slice (some ⟨ob, obo, none⟩) 2 obc) _ [0, 2] [0, 2] (by decide) (by decide) _ (HK_ob.out.fr0 ((Fr.refl _ _).alloc _)) (ints_lit w24 #[.int .i64 0, .int .i64 2] [0, 2] rfl 3 (pb + 1) 2 HZ_pb.out.symm rfl))
  refine HAL.out.mono ?_
  rintro e w25 ⟨rfl, hF⟩
  have hAf := after0 HI24.out HF24.out HN24.out (((Fr.refl (fun _ => False) w24).alloc (.cells #[.int .i64 0, .int .i64 2] 3)).trans' hF)
  have HC25 := HAL
  clear HAL hF
  obtain ⟨hI, hF, hFN, hN⟩ := hAf
  have HK_ob := Lib.hid (FrN.intsN hFN (by simp) HK_ob.out)
  have HK_hb0 := Lib.hid (FrN.cellN hFN (by simp) HK_hb0.out)
  have HK_hb4 := Lib.hid (FrN.cellN hFN (by simp) HK_hb4.out)
  have HK_kb0 := Lib.hid (FrN.cellN hFN (by simp) HK_kb0.out)
  have HI25 : Hid (IxN [pb, nb, mb, kb, hb, ob] w.heap.size w25 g [(⟨⟨#[97]⟩, ⟨#[115]⟩, 0, 5, true⟩ : En)]) := Lib.hid hI
  have HF25 := Lib.hid hF
  have HN25 := Lib.hid hN
  clear hI hF hFN hN HC25
  clear HI24 HF24 HN24
  have q0 := HK_hb0.out
  have q4 := HK_hb4.out
  have q5 := HK_kb0.out
  have t0 : ((⟨#[98]⟩ : ByteArray).toList == [98]) = true := by decide +kernel
  have t5 : ((⟨#[99]⟩ : ByteArray).toList == [99]) = true := by decide +kernel
  generalize (⟨#[98]⟩ : ByteArray) = SB at q0 t0
  generalize (⟨#[99]⟩ : ByteArray) = SC at q5 t5
  have HC26 := Lib.hid (rows_n (L := [(⟨⟨#[97]⟩, ⟨#[115]⟩, 0, 5, true⟩ : En)]) 1 rfl HI25.out)
  go_wp2_with fail
  refine HC26.out.mono ?_
  rintro e w26 ⟨rfl, rfl⟩
  have HI26 := HI25
  have HF26 := HF25
  have HN26 := HN25
  clear HC26 HI25 HF25 HN25
  have HC27 := Lib.hid (live_n (L := [(⟨⟨#[97]⟩, ⟨#[115]⟩, 0, 5, true⟩ : En)]) 5 (by decide) rfl HI26.out HF26.out HN26.out)
  go_wp2_with fail
  refine HC27.out.mono ?_
  rintro e w27 ⟨rfl, hAf⟩
  obtain ⟨hI, hF, hFN, hN⟩ := hAf
  have HK_ob := Lib.hid (FrN.intsN hFN (by simp) HK_ob.out)
  have HK_hb0 := Lib.hid (FrN.cellN hFN (by simp) HK_hb0.out)
  have HK_hb4 := Lib.hid (FrN.cellN hFN (by simp) HK_hb4.out)
  have HK_kb0 := Lib.hid (FrN.cellN hFN (by simp) HK_kb0.out)
  have HI27 : Hid (IxN [pb, nb, mb, kb, hb, ob] w.heap.size w27 g [(⟨⟨#[97]⟩, ⟨#[115]⟩, 0, 5, true⟩ : En)]) := Lib.hid hI
  have HF27 := Lib.hid hF
  have HN27 := Lib.hid hN
  clear hI hF hFN hN HC27
  clear HI26 HF26 HN26
  have HFE := HF27
  clear q0 q4 q5
  go_wp2
  go_ret
  exact ⟨rfl, HFE.out⟩
end Go.Proofs.Ytnglmkombogheaa.Index
