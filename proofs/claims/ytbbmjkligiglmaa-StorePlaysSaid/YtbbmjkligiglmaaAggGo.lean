/-
  The program's plus, withSum, Of.
-/
import Derived.Test.YtbbmjkligiglmaaAggRefE
import Derived.Test.YtbbmjkligiglmaaSerGo
namespace Go.Proofs.Ytbbmjkligiglmaa.Agg
open Go.RowKit Base _root_.Go.Proofs.Ytbbmjkligiglmaa.Tenant _root_.Go.Proofs.Ytbbmjkligiglmaa.Series _root_.Go.Proofs.Ytbbmjkligiglmaa.Pack

theorem infoG : (Try.prog.info? 33).map (·.size) = some 6 := by kernel_rfl
/-- a and b together, as a number of 64 bits, and the rounds that it lacks -/
def plusS (a b : Int) : Int := wrap64 (a + b)
def plusK (a b : Int) : Int := if 0 < b ∧ plusS a b < a then 1 else if b < 0 ∧ a < plusS a b then -1 else 0
theorem plus_is {a b : Int} (ha : Fit a) (hb : Fit b) : plusS a b + plusK a b * 18446744073709551616 = a + b ∧ Fit (plusS a b) ∧ (plusK a b = 0 ∨ plusK a b = 1 ∨ plusK a b = -1) := by
  unfold plusK
  have h : plusS a b = wrap64 (a + b) := rfl
  unfold wrap64 at h
  unfold Fit at *
  split
  · omega
  · split <;> omega
theorem plus_fits {a b : Int} (ha : Fit a) (hb : Fit b) : (plusK a b = 0 → fits (a + b) = true ∧ plusS a b = a + b) ∧ (plusK a b ≠ 0 → fits (a + b) = false) := by
  obtain ⟨h1, h2, h3⟩ := plus_is ha hb
  refine ⟨fun h => ?_, fun h => ?_⟩
  · rw [fits_iff]
    rw [h] at h1
    have e : plusS a b = a + b := by omega
    exact ⟨e ▸ h2, e⟩
  · rw [Bool.eq_false_iff, Ne, fits_iff]
    unfold Fit at *
    omega
set_option maxHeartbeats 2000000 in
theorem plus_any (a b : Int) (w : World) :
    Calls Try.prog 40 #[.int .i64 a, .int .i64 b] w fun e w' => e = .returned (.tuple #[.int .i64 (plusS a b), .int .i64 (plusK a b)]) ∧ w = w' := by
  have hS : wrap64 (a + b) = plusS a b := rfl
  have HK : Hid (plusK a b = if 0 < b ∧ plusS a b < a then 1 else if b < 0 ∧ a < plusS a b then -1 else 0) := Lib.hid rfl
  generalize plusK a b = k at *
  generalize plusS a b = s at *
  by_cases h1 : 0 < b
  · by_cases h2 : s < a
    · obtain rfl : k = 1 := by rw [HK.out, if_pos ⟨h1, h2⟩]
      go_enter Try.func40, Try.ntmps40
      go_wp2
      go_ret2
      exact ⟨by rw [← hS]; rfl, rfl⟩
    · obtain rfl : k = 0 := by rw [HK.out, if_neg (fun h => h2 h.2), if_neg (fun h => by omega)]
      go_enter Try.func40, Try.ntmps40
      go_wp2
      go_ret2
      exact ⟨rfl, rfl⟩
  · by_cases h3 : b < 0
    · by_cases h2 : a < s
      · obtain rfl : k = -1 := by rw [HK.out, if_neg (fun h => h1 h.1), if_pos ⟨h3, h2⟩]
        go_enter Try.func40, Try.ntmps40
        go_wp2
        go_ret2
        exact ⟨rfl, rfl⟩
      · obtain rfl : k = 0 := by rw [HK.out, if_neg (fun h => h1 h.1), if_neg (fun h => h2 h.2)]
        go_enter Try.func40, Try.ntmps40
        go_wp2
        go_ret2
        exact ⟨rfl, rfl⟩
    · obtain rfl : k = 0 := by rw [HK.out, if_neg (fun h => h1 h.1), if_neg (fun h => h3 h.1)]
      go_enter Try.func40, Try.ntmps40
      go_wp2
      go_ret2
      exact ⟨rfl, rfl⟩
/-- .. with that sum, which lacks so many rounds -/
def withSum (q : Ag) (s k : Int) : Ag := if k = 0 then ⟨q.c, s, q.n, q.x, q.l, q.o⟩ else ⟨q.c, 0, q.n, q.x, q.l, true⟩
/-- a block of its own behind another -/
theorem Bx.new2 (t : TypeId) (w : World) (p q : Ag) : Bx t ((w.alloc (.cells #[.int .i64 p.c, .int .i64 p.s, .int .i64 p.n, .int .i64 p.x, .int .i64 p.l, .bool p.o] t)).alloc (.cells #[.int .i64 q.c, .int .i64 q.s, .int .i64 q.n, .int .i64 q.x, .int .i64 q.l, .bool q.o] t)) (w.heap.size + 1) q := by
  have h := Bx.new t (w.alloc (.cells #[.int .i64 p.c, .int .i64 p.s, .int .i64 p.n, .int .i64 p.x, .int .i64 p.l, .bool p.o] t)) q
  rwa [World.size_alloc] at h
set_option maxRecDepth 100000 in
set_option maxHeartbeats 4000000 in
theorem withSum_any (q : Ag) (s k : Int) (w : World) :
    Calls Try.prog 41 #[.agg (a6 q), .int .i64 s, .int .i64 k] w fun e w' => e = .returned (.agg (a6 (withSum q s k))) ∧ Fr0 w w' := by
  have HB0 := Lib.hid (Bx.new2 33 w ⟨q.c, s, q.n, q.x, q.l, q.o⟩ ⟨q.c, s, q.n, q.x, q.l, q.o⟩)
  have HB1 := Lib.hid (Bx.new2 33 w ⟨q.c, 0, q.n, q.x, q.l, true⟩ ⟨q.c, 0, q.n, q.x, q.l, true⟩)
  have HF0 : Hid (Fr0 w ((w.alloc (.cells #[.int .i64 q.c, .int .i64 s, .int .i64 q.n, .int .i64 q.x, .int .i64 q.l, .bool q.o] 33)).alloc (.cells #[.int .i64 q.c, .int .i64 s, .int .i64 q.n, .int .i64 q.x, .int .i64 q.l, .bool q.o] 33))) := Lib.hid (((Fr.refl _ _).alloc _).alloc _)
  have HF1 : Hid (Fr0 w ((w.alloc (.cells #[.int .i64 q.c, .int .i64 0, .int .i64 q.n, .int .i64 q.x, .int .i64 q.l, .bool true] 33)).alloc (.cells #[.int .i64 q.c, .int .i64 0, .int .i64 q.n, .int .i64 q.x, .int .i64 q.l, .bool true] 33))) := Lib.hid (((Fr.refl _ _).alloc _).alloc _)
  rw [show a6 q = #[.int .i64 q.c, .int .i64 q.s, .int .i64 q.n, .int .i64 q.x, .int .i64 q.l, .bool q.o] from rfl]
  have HZ : Hid (withSum q s k = if k = 0 then ⟨q.c, s, q.n, q.x, q.l, q.o⟩ else ⟨q.c, 0, q.n, q.x, q.l, true⟩) := Lib.hid rfl
  generalize withSum q s k = r at *
  by_cases hk : k = 0
  · have hkb : (k != 0) = false := by rw [hk]; rfl
    have HR : Hid (r = ⟨q.c, s, q.n, q.x, q.l, q.o⟩) := Lib.hid (by rw [HZ.out, if_pos hk])
    clear hk HB1 HF1 HZ
    go_enter Try.func41, Try.ntmps41
    go_wp2_with fail
    exact bodyPost_ret (res1 rfl Try.underlying33 rfl infoG _ rfl HB0.out) rfl ⟨by rw [HR.out], HF0.out⟩
  · have hkb : (k != 0) = true := bne_iff_ne.2 hk
    have HR : Hid (r = ⟨q.c, 0, q.n, q.x, q.l, true⟩) := Lib.hid (by rw [HZ.out, if_neg hk])
    clear hk HB0 HF0 HZ
    go_enter Try.func41, Try.ntmps41
    go_wp2_with fail
    exact bodyPost_ret (res1 rfl Try.underlying33 rfl infoG _ rfl HB1.out) rfl ⟨by rw [HR.out], HF1.out⟩
theorem least_turn {V : List Int} {la : Int} (h : la ∈ V) : least (la :: V) = least V := by
  have hp := List.length_pos_of_mem h
  refine least_eq (by simp) (fun y => ⟨fun hy => ?_, fun hy => List.mem_cons_of_mem _ hy⟩)
  rcases List.mem_cons.1 hy with rfl | hy
  · exact h
  · exact hy
theorem great_turn {V : List Int} {la : Int} (h : la ∈ V) : great (la :: V) = great V := by
  refine great_eq (by simp) (fun y => ⟨fun hy => ?_, fun hy => List.mem_cons_of_mem _ hy⟩)
  rcases List.mem_cons.1 hy with rfl | hy
  · exact h
  · exact hy
/-- all together, as a number that may have wrapped round, and the rounds that it lacks -/
theorem of_rounds {V : List Int} {S K : Int} (hS : Fit S) (h : S + K * 18446744073709551616 = tot V) : ofV V = withSum ⟨(V.length : Int), 0, least V, great V, lastV V, false⟩ S K := by
  unfold ofV withSum
  by_cases hk : K = 0
  · have e : tot V = S := by rw [hk] at h; omega
    have hf : fits (tot V) = true := by rw [e]; exact (fits_iff S).2 hS
    rw [if_pos hf, if_pos hk, hf, e]
    rfl
  · have hf : fits (tot V) = false := by
      rw [Bool.eq_false_iff, Ne, fits_iff]
      unfold Fit at *
      omega
    rw [if_neg (by rw [hf]; decide), if_neg hk, hf]
    rfl
set_option maxRecDepth 100000 in
set_option maxHeartbeats 4000000 in
theorem pof_any (v : Value) (l : List Sm) (hl : l.length ≤ 1000000) (hs : SizedS l) (w : World) (hP : PairsIs w v l) :
    Calls Try.prog 26 #[v] w fun e w' => e = .returned (.agg (a6 (agOf l))) ∧ Fr0 w w' := by
  obtain ⟨A, C, rfl⟩ := pairs_form hP
  have HF0 := Lib.hid ((Fr.refl (fun _ => False) w).alloc (.cells #[.int .i64 0, .int .i64 0, .int .i64 0, .int .i64 0, .int .i64 0, .bool false] 33))
  have HB0 : Hid (Bx 33 (w.alloc (.cells #[.int .i64 0, .int .i64 0, .int .i64 0, .int .i64 0, .int .i64 0, .bool false] 33)) w.heap.size zeroA) := Lib.hid (Bx.new 33 w zeroA)
  have hlast := plast_any (.slice A l.length C) l hl (w.alloc (.cells #[.int .i64 0, .int .i64 0, .int .i64 0, .int .i64 0, .int .i64 0, .bool false] 33)) (hP.fr0 HF0.out)
  by_cases h0 : l.length = 0
  · obtain rfl : l = [] := List.eq_nil_of_length_eq_zero h0
    rw [show (decide (0 < ([] : List Sm).length)) = false from rfl, show lastOf [] = (0, 0) from rfl] at hlast
    rw [show agOf [] = zeroA from rfl]
    clear hP hl hs h0
    generalize hW1 : w.alloc (.cells #[.int .i64 0, .int .i64 0, .int .i64 0, .int .i64 0, .int .i64 0, .bool false] 33) = W1 at *
    have HW1 := Lib.hid hW1
    clear hW1
    go_enter Try.func26, Try.ntmps26
    go_wp2_with fail
    rw [HW1.out]
    generalize hg : w.heap.size = g at *
    have HGE := Lib.hid hg
    clear hg
    refine hlast.mono ?_
    clear hlast
    rintro e w1 ⟨rfl, hF⟩
    have HF1 := Lib.hid ((HF0.out.trans' hF).alloc (.cells #[.int .i64 0, .int .i64 0] 30))
    have HB1 := Lib.hid ((HB0.out.fr0 hF).fr0 ((Fr.refl (fun _ => False) w1).alloc (.cells #[.int .i64 0, .int .i64 0] 30)))
    have HR := Lib.hid (HB1.out.setRow zeroA)
    have HRF := Lib.hid (Fr.setRow (g := g) HF1.out (fun h => by have := HGE.out; omega) #[.int .i64 0, .int .i64 0, .int .i64 0, .int .i64 0, .int .i64 0, .bool false])
    clear hF HB0 HF0
    go_wp2_with ((with_reducible change wpList _ _ _ (⟨_, Op.store 33 _ _, _, _, _, _⟩ :: _) _ _); refine wpList_store_row rfl 33 _ _ rfl g #[.int .i64 0, .int .i64 0, .int .i64 0, .int .i64 0, .int .i64 0, .bool false] rfl rfl 33 _ HB1.out.heap infoG rfl (a6_one ⟨0, 0, 0, 0, 0, false⟩) ?_)
    exact bodyPost_ret (res1 rfl Try.underlying33 rfl infoG _ rfl HR.out) rfl ⟨rfl, HRF.out⟩
  · obtain ⟨V, hV⟩ : ∃ V, V = vsOf l := ⟨_, rfl⟩
    have hVL : V.length = l.length := by rw [hV, vs_length]
    obtain ⟨la, hla⟩ : ∃ la, la = lastV V := ⟨_, rfl⟩
    have hlm : la ∈ V := by rw [hla]; exact last_mem (by omega)
    have hl2 : (lastOf l).2 = la := by
      rw [hla, hV]
      unfold lastOf lastV vsOf
      rw [List.length_map, List.getD_eq_getElem?_getD, List.getD_eq_getElem?_getD, List.getElem?_map, List.getElem?_eq_getElem (show l.length - 1 < l.length by omega)]
      rfl
    rw [hl2, show (decide (0 < l.length)) = true from decide_eq_true (by omega)] at hlast
    generalize (lastOf l).1 = lt at *
    have HVI : Hid (∀ i, i < l.length → (l.getD i (0, 0)).2 = V.getD i 0 ∧ Fit (V.getD i 0)) := Lib.hid (fun i hi => by
      have e : V.getD i 0 = (l.getD i (0, 0)).2 := by
        rw [hV]
        unfold vsOf
        rw [List.getD_eq_getElem?_getD, List.getD_eq_getElem?_getD, List.getElem?_map, List.getElem?_eq_getElem hi]
        rfl
      refine ⟨e.symm, ?_⟩
      rw [e, List.getD_eq_getElem?_getD, List.getElem?_eq_getElem hi]
      exact (hs _ (List.getElem_mem hi)).2)
    have HTN : Hid (∀ i, i < V.length → tot (V.take (i + 1)) = tot (V.take i) + V.getD i 0) := Lib.hid (fun i hi => tot_next V i hi)
    have HMN : Hid (∀ i, i < V.length → least (la :: V.take (i + 1)) = (if V.getD i 0 < least (la :: V.take i) then V.getD i 0 else least (la :: V.take i)) ∧ great (la :: V.take (i + 1)) = (if great (la :: V.take i) < V.getD i 0 then V.getD i 0 else great (la :: V.take i))) := Lib.hid (fun i hi => by
      have e : la :: V.take (i + 1) = (la :: V.take i) ++ [V.getD i 0] := by
        rw [List.take_add_one, List.getD_eq_getElem?_getD, List.getElem?_eq_getElem hi]
        rfl
      rw [e]
      exact ⟨(least_next _ _).trans (if_neg (by simp)), (great_next _ _).trans (if_neg (by simp))⟩)
    have HOF : Hid (∀ S K, Fit S → S + K * 18446744073709551616 = tot V → agOf l = withSum ⟨(l.length : Int), 0, least V, great V, la, false⟩ S K) := Lib.hid (fun S K h1 h2 => by
      rw [hla, ← hVL]
      unfold agOf
      rw [← hV]
      exact of_rounds h1 h2)
    have HE1 : Hid (least (la :: V) = least V ∧ great (la :: V) = great V) := Lib.hid ⟨least_turn hlm, great_turn hlm⟩
    have HFT : Hid (∀ i, V.length ≤ i → V.take i = V) := Lib.hid (fun i h => List.take_of_length_le h)
    have HL0 : Hid (la = least (la :: V.take 0) ∧ la = great (la :: V.take 0)) := Lib.hid ⟨rfl, rfl⟩
    have HT0 : Hid (tot (V.take 0) = 0) := Lib.hid rfl
    rw [hVL] at HTN HMN HFT
    clear hl2 hlm hla hVL hV hs
    have HP := Lib.hid hP
    clear hP
    generalize agOf l = ao at *
    generalize hN : l.length = N at *
    have HN := Lib.hid hN
    clear hN
    have hN0 : ((N : Int) == 0) = false := beq_eq_false_iff_ne.2 (by omega)
    clear h0
    generalize hW1 : w.alloc (.cells #[.int .i64 0, .int .i64 0, .int .i64 0, .int .i64 0, .int .i64 0, .bool false] 33) = W1 at *
    have HW1 := Lib.hid hW1
    clear hW1
    rw [show a6 ao = #[.int .i64 ao.c, .int .i64 ao.s, .int .i64 ao.n, .int .i64 ao.x, .int .i64 ao.l, .bool ao.o] from rfl]
    go_enter Try.func26, Try.ntmps26
    go_wp2_with fail
    rw [HW1.out]
    generalize hg : w.heap.size = g at *
    have HGE := Lib.hid hg
    clear hg
    refine hlast.mono ?_
    clear hlast HW1
    rintro e w1 ⟨rfl, hF⟩
    have hf2 := ((Fr.refl (fun _ => False) w1).alloc (.cells #[.int .i64 lt, .int .i64 la] 30)).alloc (.cells #[.int .i64 N, .int .i64 0, .int .i64 la, .int .i64 la, .int .i64 la, .bool false] 33)
    have hb5 := Bx.new 33 (w1.alloc (.cells #[.int .i64 lt, .int .i64 la] 30)) ⟨(N : Int), 0, la, la, la, false⟩
    rw [World.size_alloc] at hb5
    have HB5 := Lib.hid hb5
    have HZ5 := Lib.hid ((HB0.out.fr0 hF).fr0 hf2)
    have HF5 := Lib.hid ((HF0.out.trans' hF).trans' hf2)
    have HG5 : Hid (g < w1.heap.size + 1 ∧ w.heap.size ≤ w1.heap.size + 1) := Lib.hid (by have h1 := (HF0.out.trans' hF).size; have h2 := (HB0.out.fr0 hF).lt; omega)
    clear hF hf2 hb5 HF0 HB0
    go_wp2_with fail
    generalize hg5 : w1.heap.size + 1 = g5 at *
    clear hg5
    go_loopg [6, 7, 30] N (fun kx vs vk vi wr => ∃ (i : Nat) (S K n x : Int), vi = .int .i64 (i : Int) ∧ vs = .int .i64 S ∧ vk = .int .i64 K ∧ i ≤ N ∧ N - i ≤ kx ∧ Hid (Fit S) ∧ Hid (-(i : Int) ≤ K ∧ K ≤ (i : Int)) ∧ Hid (S + K * 18446744073709551616 = tot (V.take i)) ∧ Hid (n = least (la :: V.take i) ∧ x = great (la :: V.take i)) ∧ Hid (Bx 33 wr g5 ⟨(N : Int), 0, n, x, la, false⟩) ∧ Hid (Bx 33 wr g zeroA) ∧ Hid (Fr0 w wr))
    case atStart => exact ⟨0, 0, 0, la, la, rfl, rfl, rfl, Nat.zero_le _, by omega, Lib.hid (by unfold Fit; omega), Lib.hid (by omega), Lib.hid (by rw [HT0.out]; rfl), HL0, HB5, HZ5, HF5⟩
    case round =>
      clear HB5 HZ5 HF5 HL0 HT0
      obtain ⟨i, S, K, n, x, rfl, rfl, rfl, hi, hk, HFS0, HBK0, HTT0, HM, HB, HZ, HF⟩ := hrel
      by_cases hlt : i < N
      · obtain ⟨pb, po, rfl, hc⟩ := pairs_at HP.out i (by have := HN.out; omega)
        obtain ⟨d0, d1⟩ := hc wr HF.out
        have i1 : (i : Int) < (N : Int) := by omega
        have i2 : 0 ≤ (i : Int) := by omega
        obtain ⟨hy1, hy2⟩ := HVI.out i (by have := HN.out; omega)
        have htn := HTN.out i hlt
        obtain ⟨hln, hgn⟩ := HMN.out i hlt
        rw [hy1] at d1
        rw [← HM.out.1] at hln
        rw [← HM.out.2] at hgn
        rw [← HTT0.out] at htn
        obtain ⟨p1, p2, p3⟩ := plus_is HFS0.out hy2
        have HLN := Lib.hid hln
        have HGN := Lib.hid hgn
        generalize V.getD i 0 = y at *
        have HFS : Hid (Fit (plusS S y)) := Lib.hid p2
        have HBK : Hid (-((i + 1 : Nat) : Int) ≤ K + plusK S y ∧ K + plusK S y ≤ ((i + 1 : Nat) : Int)) := Lib.hid (by have := HBK0.out; omega)
        have HTT : Hid (plusS S y + (K + plusK S y) * 18446744073709551616 = tot (V.take (i + 1))) := Lib.hid (by rw [htn]; omega)
        have hpl := plus_any S y
        have hk2 : wrap64 (K + plusK S y) = K + plusK S y := by have := HBK.out; simp only [wrap64]; omega
        clear hc hy1 hy2 htn hln hgn p1 p2 p3 HTT0 HBK0 HFS0 HM
        generalize (l.getD i (0, 0)).1 = yt at *
        go_wp2_with fail
        refine (hpl _).mono ?_
        clear hpl
        rintro e w9 ⟨rfl, rfl⟩
        go_wp2_with fail
        have hf3 := ((Fr.refl (fun _ => False) wr).alloc (.cells #[.int .i64 yt, .int .i64 y] 30))
        have e0 : (wr.alloc (.cells #[.int .i64 yt, .int .i64 y] 30)).cell? ⟨wr.heap.size, 1, none⟩ = some (.int .i64 y) := by
          rw [cell_of_row _ _ _ _ _ _ (heap_alloc_new wr _)]
          rfl
        have HF3 := Lib.hid (HF.out.trans' hf3)
        have HB3 := Lib.hid (HB.out.fr0 hf3)
        have HZ3 := Lib.hid (HZ.out.fr0 hf3)
        clear hf3 HB HZ HF d0 d1
        generalize wr.heap.size = q5 at *
        generalize wr.alloc (.cells #[.int .i64 yt, .int .i64 y] 30) = w3 at *
        obtain ⟨k0, k1, k2, k3, k4, k5⟩ := HB3.out.cells
        have t2 := HB3.out.thaw 2
        have t3 := HB3.out.thaw 3
        by_cases hn : y < n
        · by_cases hx : x < y
          · have HB4 := Lib.hid ((HB3.out.set 2 (.int .i64 y) ⟨(N : Int), 0, y, x, la, false⟩ (fun i hi => by
              match i, hi with
              | 0, _ => rfl
              | 1, _ => rfl
              | 2, _ => rfl
              | 3, _ => rfl
              | 4, _ => rfl
              | 5, _ => rfl)).set 3 (.int .i64 y) ⟨(N : Int), 0, y, y, la, false⟩ (fun i hi => by
              match i, hi with
              | 0, _ => rfl
              | 1, _ => rfl
              | 2, _ => rfl
              | 3, _ => rfl
              | 4, _ => rfl
              | 5, _ => rfl))
            have HZ4 := Lib.hid ((HZ3.out.otherCell (b := g5) (by have := HG5.out; omega) 2 (.int .i64 y)).otherCell (b := g5) (by have := HG5.out; omega) 3 (.int .i64 y))
            have HF4 : Hid (Fr0 w ((w3.setCell ⟨g5, 2, none⟩ (.int .i64 y)).setCell ⟨g5, 3, none⟩ (.int .i64 y))) := Lib.hid (Fr.setCell (Fr.setCell HF3.out (p := ⟨g5, 2, none⟩) (fun h => by have := HG5.out; have h' : g5 < w.heap.size := h; omega) _) (p := ⟨g5, 3, none⟩) (fun h => by have := HG5.out; have h' : g5 < w.heap.size := h; omega) _)
            have HL2 : Hid (y = least (la :: V.take (i + 1))) := Lib.hid (by rw [HLN.out, if_pos hn])
            have HG2 : Hid (y = great (la :: V.take (i + 1))) := Lib.hid (by rw [HGN.out, if_pos hx])
            go_region
            all_goals skip
            go_wp2
            go_roundg (N - (i + 1))
            case measure => omega
            case rel => exact ⟨i + 1, plusS S y, K + plusK S y, y, y, by simp, rfl, rfl, by omega, by omega, HFS, HBK, HTT, Lib.hid ⟨HL2.out, HG2.out⟩, Lib.hid (HB4.out.fr0 (Fr.refl _ _).drew), Lib.hid (HZ4.out.fr0 (Fr.refl _ _).drew), Lib.hid (HF4.out.trans' (Fr.refl _ _).drew)⟩
          · have HB4 := Lib.hid ((HB3.out.set 2 (.int .i64 y) ⟨(N : Int), 0, y, x, la, false⟩ (fun i hi => by
              match i, hi with
              | 0, _ => rfl
              | 1, _ => rfl
              | 2, _ => rfl
              | 3, _ => rfl
              | 4, _ => rfl
              | 5, _ => rfl)).set 3 (.int .i64 x) ⟨(N : Int), 0, y, x, la, false⟩ (fun i hi => by
              match i, hi with
              | 0, _ => rfl
              | 1, _ => rfl
              | 2, _ => rfl
              | 3, _ => rfl
              | 4, _ => rfl
              | 5, _ => rfl))
            have HZ4 := Lib.hid ((HZ3.out.otherCell (b := g5) (by have := HG5.out; omega) 2 (.int .i64 y)).otherCell (b := g5) (by have := HG5.out; omega) 3 (.int .i64 x))
            have HF4 : Hid (Fr0 w ((w3.setCell ⟨g5, 2, none⟩ (.int .i64 y)).setCell ⟨g5, 3, none⟩ (.int .i64 x))) := Lib.hid (Fr.setCell (Fr.setCell HF3.out (p := ⟨g5, 2, none⟩) (fun h => by have := HG5.out; have h' : g5 < w.heap.size := h; omega) _) (p := ⟨g5, 3, none⟩) (fun h => by have := HG5.out; have h' : g5 < w.heap.size := h; omega) _)
            have HL2 : Hid (y = least (la :: V.take (i + 1))) := Lib.hid (by rw [HLN.out, if_pos hn])
            have HG2 : Hid (x = great (la :: V.take (i + 1))) := Lib.hid (by rw [HGN.out, if_neg hx])
            go_region
            all_goals skip
            go_wp2
            go_roundg (N - (i + 1))
            case measure => omega
            case rel => exact ⟨i + 1, plusS S y, K + plusK S y, y, x, by simp, rfl, rfl, by omega, by omega, HFS, HBK, HTT, Lib.hid ⟨HL2.out, HG2.out⟩, Lib.hid (HB4.out.fr0 (Fr.refl _ _).drew), Lib.hid (HZ4.out.fr0 (Fr.refl _ _).drew), Lib.hid (HF4.out.trans' (Fr.refl _ _).drew)⟩
        · by_cases hx : x < y
          · have HB4 := Lib.hid ((HB3.out.set 2 (.int .i64 n) ⟨(N : Int), 0, n, x, la, false⟩ (fun i hi => by
              match i, hi with
              | 0, _ => rfl
              | 1, _ => rfl
              | 2, _ => rfl
              | 3, _ => rfl
              | 4, _ => rfl
              | 5, _ => rfl)).set 3 (.int .i64 y) ⟨(N : Int), 0, n, y, la, false⟩ (fun i hi => by
              match i, hi with
              | 0, _ => rfl
              | 1, _ => rfl
              | 2, _ => rfl
              | 3, _ => rfl
              | 4, _ => rfl
              | 5, _ => rfl))
            have HZ4 := Lib.hid ((HZ3.out.otherCell (b := g5) (by have := HG5.out; omega) 2 (.int .i64 n)).otherCell (b := g5) (by have := HG5.out; omega) 3 (.int .i64 y))
            have HF4 : Hid (Fr0 w ((w3.setCell ⟨g5, 2, none⟩ (.int .i64 n)).setCell ⟨g5, 3, none⟩ (.int .i64 y))) := Lib.hid (Fr.setCell (Fr.setCell HF3.out (p := ⟨g5, 2, none⟩) (fun h => by have := HG5.out; have h' : g5 < w.heap.size := h; omega) _) (p := ⟨g5, 3, none⟩) (fun h => by have := HG5.out; have h' : g5 < w.heap.size := h; omega) _)
            have HL2 : Hid (n = least (la :: V.take (i + 1))) := Lib.hid (by rw [HLN.out, if_neg hn])
            have HG2 : Hid (y = great (la :: V.take (i + 1))) := Lib.hid (by rw [HGN.out, if_pos hx])
            go_region
            all_goals skip
            go_wp2
            go_roundg (N - (i + 1))
            case measure => omega
            case rel => exact ⟨i + 1, plusS S y, K + plusK S y, n, y, by simp, rfl, rfl, by omega, by omega, HFS, HBK, HTT, Lib.hid ⟨HL2.out, HG2.out⟩, Lib.hid (HB4.out.fr0 (Fr.refl _ _).drew), Lib.hid (HZ4.out.fr0 (Fr.refl _ _).drew), Lib.hid (HF4.out.trans' (Fr.refl _ _).drew)⟩
          · have HB4 := Lib.hid ((HB3.out.set 2 (.int .i64 n) ⟨(N : Int), 0, n, x, la, false⟩ (fun i hi => by
              match i, hi with
              | 0, _ => rfl
              | 1, _ => rfl
              | 2, _ => rfl
              | 3, _ => rfl
              | 4, _ => rfl
              | 5, _ => rfl)).set 3 (.int .i64 x) ⟨(N : Int), 0, n, x, la, false⟩ (fun i hi => by
              match i, hi with
              | 0, _ => rfl
              | 1, _ => rfl
              | 2, _ => rfl
              | 3, _ => rfl
              | 4, _ => rfl
              | 5, _ => rfl))
            have HZ4 := Lib.hid ((HZ3.out.otherCell (b := g5) (by have := HG5.out; omega) 2 (.int .i64 n)).otherCell (b := g5) (by have := HG5.out; omega) 3 (.int .i64 x))
            have HF4 : Hid (Fr0 w ((w3.setCell ⟨g5, 2, none⟩ (.int .i64 n)).setCell ⟨g5, 3, none⟩ (.int .i64 x))) := Lib.hid (Fr.setCell (Fr.setCell HF3.out (p := ⟨g5, 2, none⟩) (fun h => by have := HG5.out; have h' : g5 < w.heap.size := h; omega) _) (p := ⟨g5, 3, none⟩) (fun h => by have := HG5.out; have h' : g5 < w.heap.size := h; omega) _)
            have HL2 : Hid (n = least (la :: V.take (i + 1))) := Lib.hid (by rw [HLN.out, if_neg hn])
            have HG2 : Hid (x = great (la :: V.take (i + 1))) := Lib.hid (by rw [HGN.out, if_neg hx])
            go_region
            all_goals skip
            go_wp2
            go_roundg (N - (i + 1))
            case measure => omega
            case rel => exact ⟨i + 1, plusS S y, K + plusK S y, n, x, by simp, rfl, rfl, by omega, by omega, HFS, HBK, HTT, Lib.hid ⟨HL2.out, HG2.out⟩, Lib.hid (HB4.out.fr0 (Fr.refl _ _).drew), Lib.hid (HZ4.out.fr0 (Fr.refl _ _).drew), Lib.hid (HF4.out.trans' (Fr.refl _ _).drew)⟩
      · obtain rfl : i = N := by omega
        have hft := HFT.out i (Nat.le_refl _)
        have hao := HOF.out S K HFS0.out (by rw [HTT0.out, hft])
        have hml := HM.out
        rw [hft, HE1.out.1, HE1.out.2] at hml
        rw [← hml.1, ← hml.2] at hao
        have hws := withSum_any ⟨(i : Int), 0, n, x, la, false⟩ S K
        rw [← hao, show a6 ⟨(i : Int), 0, n, x, la, false⟩ = #[.int .i64 ((i : Int)), .int .i64 0, .int .i64 n, .int .i64 x, .int .i64 la, .bool false] from rfl, show a6 ao = #[.int .i64 ao.c, .int .i64 ao.s, .int .i64 ao.n, .int .i64 ao.x, .int .i64 ao.l, .bool ao.o] from rfl] at hws
        have HWS := Lib.hid hws
        clear hft hao hml hws HFT HOF HE1 HM HTT0 HBK0 HFS0 HMN HTN HVI
        obtain ⟨k0, k1, k2, k3, k4, k5⟩ := HB.out.cells
        go_wp2_with fail
        refine (HWS.out _).mono ?_
        clear HWS k0 k1 k2 k3 k4 k5
        rintro e w9 ⟨rfl, hF9⟩
        have HF9 := Lib.hid (HF.out.trans' hF9)
        have HZ9 := Lib.hid (HZ.out.fr0 hF9)
        have HR := Lib.hid (HZ9.out.setRow ao)
        have HRF := Lib.hid (Fr.setRow (g := g) HF9.out (fun h => by have := HGE.out; omega) #[.int .i64 ao.c, .int .i64 ao.s, .int .i64 ao.n, .int .i64 ao.x, .int .i64 ao.l, .bool ao.o])
        clear hF9 HF HZ HB
        go_wp2_with ((with_reducible change wpList _ _ _ (⟨_, Op.store 33 _ _, _, _, _, _⟩ :: _) _ _); refine wpList_store_row rfl 33 _ _ rfl g #[.int .i64 ao.c, .int .i64 ao.s, .int .i64 ao.n, .int .i64 ao.x, .int .i64 ao.l, .bool ao.o] rfl rfl 33 _ HZ9.out.heap infoG rfl (a6_one ⟨ao.c, ao.s, ao.n, ao.x, ao.l, ao.o⟩) ?_)
        exact bodyPost_ret (res1 rfl Try.underlying33 rfl infoG _ rfl HR.out) rfl ⟨rfl, HRF.out⟩
end Go.Proofs.Ytbbmjkligiglmaa.Agg
