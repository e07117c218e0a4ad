/-
  The program's index: what only reads.
-/
import Derived.Test.YtnglmkombogheaaIndexGo
namespace Go.Proofs.Ytnglmkombogheaa.Index
open Go.RowKit Base
open _root_.Go.Proofs.Ytnglmkombogheaa.Ord (Ent ptr Sorted Grown OrdIn FrO Mine held)

section
variable {O : Nat → Prop} {w : World} {g : Nat} {L : List En}
theorem at_none {L : List En} {r : Int} (h : isRow L r = false) : atX L r = zeroE := by unfold atX; rw [h]; rfl
theorem at_some {L : List En} {r : Int} (h : isRow L r = true) : atX L r = L.getD r.toNat zeroE := by unfold atX; rw [if_pos h]
theorem iat_any (O : Nat → Prop) (g : Nat) (L : List En) (r : Int) (hr : inI64 r) (w : World) (h : IxAt O w g L) :
    Calls Try.prog 12 #[ptr g, .int .i64 r] w fun e w' => e = .returned (.tuple #[.agg (e5 (atX L r)), .bool (isRow L r)]) ∧ Fr0 w w' := by
  obtain ⟨ho, o, A, C, es, hp⟩ := h
  have hle := ho.le
  have HF0 : Hid (Fr0 w (w.alloc (.cells #[.string ⟨#[]⟩, .string ⟨#[]⟩, .int .i64 0, .int .i64 0, .bool false] 28))) := Lib.hid ((Fr.refl _ _).alloc _)
  have HB0 : Hid (Bx 28 (w.alloc (.cells #[.string ⟨#[]⟩, .string ⟨#[]⟩, .int .i64 0, .int .i64 0, .bool false] 28)) w.heap.size zeroE) := Lib.hid (Bx.new 28 w zeroE)
  have hp0 := hp.fr0 HF0.out
  have c0 := hp0.c0
  by_cases hr0 : r < 0
  · have hno : isRow L r = false := by unfold isRow; rw [decide_eq_false (by omega)]; rfl
    rw [at_none hno, hno]
    clear hp hp0 ho hno
    unfold ptr at *
    go_enter Try.func12, Try.ntmps12
    go_wp2
    exact bodyPost_ret (res2 rfl Try.underlying28 rfl infoE _ _ rfl rfl HB0.out) rfl ⟨rfl, HF0.out⟩
  · by_cases hr1 : (L.length : Int) ≤ r
    · have hno : isRow L r = false := by unfold isRow; rw [decide_eq_false (show ¬ r < (L.length : Int) by omega)]; simp
      rw [at_none hno, hno]
      clear hp hp0 ho hno
      generalize L.length = n at *
      unfold ptr at *
      go_enter Try.func12, Try.ntmps12
      go_wp2
      exact bodyPost_ret (res2 rfl Try.underlying28 rfl infoE _ _ rfl rfl HB0.out) rfl ⟨rfl, HF0.out⟩
    · obtain ⟨i, rfl⟩ : ∃ i : Nat, r = (i : Int) := ⟨r.toNat, by omega⟩
      have hi : i < L.length := by omega
      obtain ⟨b, rfl, -, -, -, k0, k1, k2, k3, k4⟩ := hp0.at i hi
      have hat : atX L (i : Int) = L.getD i zeroE := by
        cases hx : isRow L (i : Int) with
        | true => rw [at_some hx, Int.toNat_natCast]
        | false =>
          rw [at_none hx]
          refine (ho.zero i ?_).symm
          unfold isRow at hx
          rw [decide_eq_true (show (0 : Int) ≤ i by omega), decide_eq_true (show (i : Int) < L.length by omega), Int.toNat_natCast] at hx
          simpa using hx
      have hrow : isRow L (i : Int) = !gap (L.getD i zeroE) := by
        unfold isRow
        rw [decide_eq_true (show (0 : Int) ≤ i by omega), decide_eq_true (show (i : Int) < L.length by omega), Int.toNat_natCast]
        simp
      rw [hat, hrow]
      clear hat hrow hp hp0
      have i1 : (i : Int) < (L.length : Int) := by omega
      have hE := gap_raw (L.getD i zeroE)
      generalize gap (L.getD i zeroE) = d at *
      generalize L.getD i zeroE = q at *
      generalize L.length = n at *
      clear ho
      unfold ptr at *
      go_enter Try.func12, Try.ntmps12
      have HF2 : Hid (Fr0 w ((w.alloc (.cells #[.string ⟨#[]⟩, .string ⟨#[]⟩, .int .i64 0, .int .i64 0, .bool false] 28)).alloc (.cells #[.string q.k, .string q.s, .int .i64 q.id, .int .i64 q.sz, .bool q.u] 28))) := Lib.hid (HF0.out.alloc _)
      have hb2 := Bx.new 28 (w.alloc (.cells #[.string ⟨#[]⟩, .string ⟨#[]⟩, .int .i64 0, .int .i64 0, .bool false] 28)) q
      rw [show (w.alloc (.cells #[.string ⟨#[]⟩, .string ⟨#[]⟩, .int .i64 0, .int .i64 0, .bool false] 28)).heap.size = w.heap.size + 1 by simp] at hb2
      have HB2 := Lib.hid hb2
      have HZ2 := Lib.hid (HB0.out.fr0 ((Fr.refl _ _).alloc (.cells #[.string q.k, .string q.s, .int .i64 q.id, .int .i64 q.sz, .bool q.u] 28)))
      clear hb2
      go_wp2
      generalize (w.alloc (.cells #[.string ⟨#[]⟩, .string ⟨#[]⟩, .int .i64 0, .int .i64 0, .bool false] 28)).alloc (.cells #[.string q.k, .string q.s, .int .i64 q.id, .int .i64 q.sz, .bool q.u] 28) = W2 at *
      generalize hG : w.heap.size = G at *
      have HG := Lib.hid hG
      clear hG HB0 HF0 c0 k0 k1 k2 k3 k4
      refine Mix.law (fun X => X.cell? ⟨G + 1, 0, none⟩ = some (.string q.k) ∧ X.cell? ⟨G + 1, 1, none⟩ = some (.string q.s) ∧ X.cell? ⟨G + 1, 2, none⟩ = some (.int .i64 q.id) ∧ X.cell? ⟨G + 1, 3, none⟩ = some (.int .i64 q.sz) ∧ X.cell? ⟨G + 1, 4, none⟩ = some (.bool q.u)) [(.sure, 0), (.sure, 1), (.sure, 2), (.sure, 3), (.turn, 4), (.sure, 5)] (by kernel_rfl) (by kernel_rfl) HB2.out.cells ?_
      simp only [List.map_cons, List.map_nil, Mix.nth_zero, Mix.nth_succ]
      have HF3 := Lib.hid (HF2.out.drew)
      have HB3 := Lib.hid (HB2.out.fr0 (Fr.refl _ _).drew)
      have HZ3 := Lib.hid (HZ2.out.fr0 (Fr.refl _ _).drew)
      clear HB2 HZ2 HF2
      generalize W2.drew = W3 at *
      repeat (first
        | ((with_reducible refine Mix.go_skipS ?_ ?_); (focus (first | exact Mix.wanted_no rfl rfl rfl rfl | exact Mix.wanted_void rfl rfl rfl)); go_frame)
        | ((with_reducible refine Mix.go_skipL ?_ ?_); (focus (first | exact Mix.wanted_no rfl rfl rfl rfl | exact Mix.wanted_void rfl rfl rfl)); go_frame)
        | (refine Mix.go_move (by first | exact Mix.wanted_none rfl | exact Mix.wanted_yes rfl rfl rfl) _ rfl _ (by first | (go_simp; done) | (go_simp; rfl)) ?_; go_frame)
        | (refine Mix.go_assign (by first | exact Mix.wanted_none rfl | exact Mix.wanted_yes rfl rfl rfl) _ rfl _ (by first | (go_simp; done) | (go_simp; rfl)) ?_; go_frame)
        | (refine Mix.go_sureW (by first | exact Mix.wanted_none rfl | exact Mix.wanted_yes rfl rfl rfl) _ (by rfl) (by rfl) _ (fun w' ⟨hC1, hC2, hC3, hC4, hC5⟩ => by go_wp2_with fail; refine Mix.stays ?_; go_frame; rfl) ?_; go_frame)
        | (refine Mix.go_lookW (by first | exact Mix.wanted_none rfl | exact Mix.wanted_yes rfl rfl rfl) _ (by rfl) (by rfl) _ (by go_wp2_with fail; refine Mix.stays ?_; go_frame; rfl) ?_; go_frame))
      refine Mix.go_turn ?_
      go_wp2_with (refine wpList_store_row rfl 28 _ _ rfl G #[.string q.k, .string q.s, .int .i64 q.id, .int .i64 q.sz, .bool q.u] rfl rfl 28 _ HZ3.out.heap infoE rfl (e5_all q) ?_)
      have HB4 := Lib.hid (HB3.out.fr (W' := W3.setRow G #[.string q.k, .string q.s, .int .i64 q.id, .int .i64 q.sz, .bool q.u]) (Fr.setRow (S := fun j => j = G) (Fr.refl _ _) (fun _ => rfl) _) (fun e => by have e' : G + 1 = G := e; omega))
      have HZ4 := Lib.hid (HZ3.out.setRow q)
      have HF4 := Lib.hid (Fr.setRow (g := G) HF3.out (fun h => by have := HG.out; omega) #[.string q.k, .string q.s, .int .i64 q.id, .int .i64 q.sz, .bool q.u])
      generalize W3.setRow G #[.string q.k, .string q.s, .int .i64 q.id, .int .i64 q.sz, .bool q.u] = W4 at *
      refine Mix.then_go HB4.out.cells ?_
      repeat (first
        | ((with_reducible refine Mix.go_skipS ?_ ?_); (focus (first | exact Mix.wanted_no rfl rfl rfl rfl | exact Mix.wanted_void rfl rfl rfl)); go_frame)
        | ((with_reducible refine Mix.go_skipL ?_ ?_); (focus (first | exact Mix.wanted_no rfl rfl rfl rfl | exact Mix.wanted_void rfl rfl rfl)); go_frame)
        | (refine Mix.go_move (by first | exact Mix.wanted_none rfl | exact Mix.wanted_yes rfl rfl rfl) _ rfl _ (by first | (go_simp; done) | (go_simp; rfl)) ?_; go_frame)
        | (refine Mix.go_assign (by first | exact Mix.wanted_none rfl | exact Mix.wanted_yes rfl rfl rfl) _ rfl _ (by first | (go_simp; done) | (go_simp; rfl)) ?_; go_frame)
        | (refine Mix.go_sureW (by first | exact Mix.wanted_none rfl | exact Mix.wanted_yes rfl rfl rfl) _ (by rfl) (by rfl) _ (fun w' ⟨hC1, hC2, hC3, hC4, hC5⟩ => by go_wp2_with fail; refine Mix.stays ?_; go_frame; rfl) ?_; go_frame)
        | (refine Mix.go_lookW (by first | exact Mix.wanted_none rfl | exact Mix.wanted_yes rfl rfl rfl) _ (by rfl) (by rfl) _ (by go_wp2_with fail; refine Mix.stays ?_; go_frame; rfl) ?_; go_frame))
      refine Mix.go_end ?_
      go_wp2
      exact bodyPost_ret (res2 rfl Try.underlying28 rfl infoE _ _ rfl rfl HZ4.out) rfl ⟨rfl, HF4.out⟩
theorem least_of {L : List En} {i : Nat} (hi : i < L.length) (h : ∀ j, j < i → gap (L.getD j zeroE) = false) (hg : gap (L.getD i zeroE) = true) : i = least L := by
  rcases Nat.lt_trichotomy i (least L) with h1 | h1 | h1
  · rw [least_before h1] at hg; cases hg
  · exact h1
  · have h2 := h _ h1
    rw [least_at (by omega)] at h2
    cases h2
theorem least_none {L : List En} (h : ∀ j, j < L.length → gap (L.getD j zeroE) = false) : L.length = least L := by
  have h1 := least_le L
  rcases Nat.lt_or_ge (least L) L.length with h2 | h2
  · have h3 := h _ h2
    rw [least_at h2] at h3
    cases h3
  · omega
theorem ileast_any (O : Nat → Prop) (g : Nat) (L : List En) (w : World) (h : IxAt O w g L) :
    Calls Try.prog 19 #[ptr g] w fun e w' => e = .returned (.int .i64 (least L : Int)) ∧ w' = w := by
  obtain ⟨ho, o, A, C, es, hp⟩ := h
  have hle := ho.le
  have c0 := hp.c0
  have HP := Lib.hid hp
  have HX : Hid (∀ i, i < L.length → (∀ j, j < i → gap (L.getD j zeroE) = false) → gap (L.getD i zeroE) = true → i = least L) := Lib.hid (fun i hi h hg => least_of hi h hg)
  have HY : Hid ((∀ j, j < L.length → gap (L.getD j zeroE) = false) → L.length = least L) := Lib.hid least_none
  clear hp ho
  obtain ⟨n, hn⟩ : ∃ n, n = L.length := ⟨_, rfl⟩
  have HN := Lib.hid hn
  rw [← hn] at c0 hle HX HY
  clear hn
  unfold ptr at *
  go_enter Try.func19, Try.ntmps19
  go_wp2_with fail
  go_loopg [9] n (fun kx vi wr => ∃ (i : Nat), vi = .int .i64 (i : Int) ∧ i ≤ n ∧ n - i ≤ kx ∧ Hid (∀ j, j < i → gap (L.getD j zeroE) = false) ∧ w = wr)
  case atStart => exact ⟨0, rfl, Nat.zero_le _, by omega, Lib.hid (fun j h => absurd h (Nat.not_lt_zero j)), rfl⟩
  case round =>
    obtain ⟨i, rfl, hi, hk, HNG, rfl⟩ := hrel
    by_cases hlt : i < n
    · obtain ⟨b, rfl, -, -, -, k0, -⟩ := HP.out.at i (by rw [← HN.out]; exact hlt)
      have hE := gap_raw (L.getD i zeroE)
      have i1 : (i : Int) < (n : Int) := by omega
      cases hg : gap (L.getD i zeroE) with
      | true =>
        have HE := Lib.hid (HX.out i hlt HNG.out hg)
        rw [hg] at hE
        clear HX HY HNG HP hg
        generalize L.getD i zeroE = q at *
        go_wp2
        go_ret
        exact ⟨by rw [← HE.out]; rfl, rfl⟩
      | false =>
        have HNG2 : Hid (∀ j, j < i + 1 → gap (L.getD j zeroE) = false) := Lib.hid (fun j hj => by
          rcases Nat.lt_or_eq_of_le (Nat.le_of_lt_succ hj) with h1 | rfl
          · exact HNG.out j h1
          · exact hg)
        rw [hg] at hE
        clear HX HY HNG HP hg
        generalize L.getD i zeroE = q at *
        go_wp2
        go_roundg (n - (i + 1))
        case measure => omega
        case rel => exact ⟨i + 1, by simp, by omega, by omega, HNG2, rfl⟩
    · obtain rfl : i = n := by omega
      have HE := Lib.hid (HY.out HNG.out)
      clear HX HY HNG HP
      go_wp2
      go_ret
      exact ⟨by rw [← HE.out]; rfl, rfl⟩
theorem live_more (L : List En) (i : Nat) (hi : i < L.length) : liveX (L.take (i + 1)) = liveX (L.take i) + (L.getD i zeroE).sz := by
  induction L generalizing i with
  | nil => simp at hi
  | cons e L ih =>
    cases i with
    | zero => simp [liveX]
    | succ i =>
      have := ih i (by simpa using hi)
      simp only [List.take_succ_cons, liveX, List.getD_cons_succ] at *
      omega
theorem ilive_any (O : Nat → Prop) (g : Nat) (L : List En) (hs : ∀ x ∈ L, 0 ≤ x.sz ∧ x.sz ≤ 1099511627776) (w : World) (h : IxAt O w g L) :
    Calls Try.prog 13 #[ptr g] w fun e w' => e = .returned (.int .i64 (liveX L)) ∧ Fr0 w w' := by
  obtain ⟨ho, o, A, C, es, hp⟩ := h
  have hle := ho.le
  have c0 := hp.c0
  have HP := Lib.hid hp
  have HS : Hid (∀ i, i < L.length → 0 ≤ (L.getD i zeroE).sz ∧ (L.getD i zeroE).sz ≤ 1099511627776) := Lib.hid (fun i hi => by
    rw [List.getD_eq_getElem?_getD, List.getElem?_eq_getElem hi]
    exact hs _ (List.getElem_mem hi))
  have HNX : Hid (∀ i, i < L.length → liveX (L.take (i + 1)) = liveX (L.take i) + (L.getD i zeroE).sz) := Lib.hid (fun i hi => live_more L i hi)
  have HE : Hid (liveX (L.take L.length) = liveX L) := Lib.hid (by rw [List.take_length])
  have H0 : Hid (liveX (L.take 0) = 0) := Lib.hid rfl
  clear hp ho hs
  obtain ⟨n, hn⟩ : ∃ n, n = L.length := ⟨_, rfl⟩
  have HN := Lib.hid hn
  rw [← hn] at c0 hle HS HNX HE
  clear hn
  unfold ptr at *
  go_enter Try.func13, Try.ntmps13
  go_wp2_with fail
  go_loopg [3, 11] n (fun kx vn vi wr => Hid (Fr0 w wr) ∧ ∃ (i : Nat) (S : Int), vi = .int .i64 (i : Int) ∧ vn = .int .i64 S ∧ i ≤ n ∧ n - i ≤ kx ∧ 0 ≤ S ∧ S ≤ i * 1099511627776 ∧ Hid (liveX (L.take i) = S))
  case atStart => exact ⟨Lib.hid (Fr.refl _ _), 0, 0, rfl, rfl, Nat.zero_le _, by omega, by omega, by omega, H0⟩
  case round =>
    obtain ⟨HFR, i, S, rfl, rfl, hi, hk, hS0, hS1, HSS⟩ := hrel
    by_cases hlt : i < n
    · obtain ⟨b, rfl, -, -, -, k0, k1, k2, k3, k4⟩ := (HP.out.fr0 HFR.out).at i (by rw [← HN.out]; exact hlt)
      obtain ⟨z0, z1⟩ := HS.out i hlt
      have hnx := HNX.out i hlt
      rw [HSS.out] at hnx
      have HNX2 := Lib.hid hnx
      have i1 : (i : Int) < (n : Int) := by omega
      clear HS HNX HE H0 HP hnx
      generalize L.getD i zeroE = q at *
      have hw : wrap64 (S + q.sz) = S + q.sz := by simp only [wrap64]; omega
      have HF2 : Hid (Fr0 w (wr.alloc (.cells #[.string q.k, .string q.s, .int .i64 q.id, .int .i64 q.sz, .bool q.u] 28))) := Lib.hid (HFR.out.alloc _)
      go_wp2
      go_roundg (n - (i + 1))
      case measure => omega
      case rel => exact ⟨HF2, i + 1, S + q.sz, by simp, rfl, by omega, by omega, by omega, by omega, HNX2⟩
    · obtain rfl : i = n := by omega
      have HE2 := Lib.hid (HE.out)
      rw [HSS.out] at HE2
      clear HS HNX HE H0 HP
      go_wp2
      go_ret
      exact ⟨by rw [HE2.out]; rfl, HFR.out⟩
/-! Of -/
def ofN (s : ByteArray) (L : List En) (i : Nat) : List Nat := (List.range i).filter fun i => !gap (L.getD i zeroE) && decide ((L.getD i zeroE).s = s)
theorem ofN_all (s : ByteArray) (L : List En) : ofN s L L.length = ofX s L := rfl
theorem ofN_in {s : ByteArray} {L : List En} {i : Nat} (h : (!gap (L.getD i zeroE) && decide ((L.getD i zeroE).s = s)) = true) : ofN s L (i + 1) = ofN s L i ++ [i] := by
  unfold ofN
  rw [List.range_succ, List.filter_append, List.filter_cons_of_pos (p := fun i => !gap (L.getD i zeroE) && decide ((L.getD i zeroE).s = s)) (a := i) (l := []) h, List.filter_nil]
theorem ofN_out {s : ByteArray} {L : List En} {i : Nat} (h : (!gap (L.getD i zeroE) && decide ((L.getD i zeroE).s = s)) = false) : ofN s L (i + 1) = ofN s L i := by
  unfold ofN
  rw [List.range_succ, List.filter_append, List.filter_cons_of_neg (by rw [h]; decide), List.filter_nil, List.append_nil]
theorem ofN_le (s : ByteArray) (L : List En) (i : Nat) : (ofN s L i).length ≤ i := by
  unfold ofN
  exact Nat.le_trans (List.length_filter_le _ _) (by simp)
def ovals (l : List Nat) : List Value := l.map fun i : Nat => Value.int .i64 (i : Int)
theorem ovals_snoc (l : List Nat) (i : Nat) : ovals (l ++ [i]) = ovals l ++ [.int .i64 (i : Int)] := by simp [ovals]
theorem one_int (w : World) (x : Int) (t : TypeId) (N : Nat) (hN : N = w.heap.size) : ValsIs (w.alloc (.cells #[.int .i64 x] t)) (.slice (some ⟨N, 0, none⟩) 1 1) 1 [.int .i64 x] := by
  subst hN
  refine ⟨_, 1, w.heap.size, 0, rfl, Nat.le_refl _, fun _ => rfl, fun j hj => ?_⟩
  obtain rfl : j = 0 := by simpa using hj
  rw [cell_of_row _ _ _ _ _ _ (heap_alloc_new w _)]
  rfl
theorem ovals_is {w : World} {base : Nat} {e : TypeId} {v : Value} {l : List Nat} (h : w.ownsRow base e 1 v l.length (ovals l)) : IntsIs w v (l.map fun i : Nat => (i : Int)) ∧ ∀ a n c, v = .slice (some a) n c → base ≤ a.block := by
  rcases h.2 with ⟨rfl, h0⟩ | ⟨b, cap, cur, rfl, hb, hg, hc, hm, hs, ht⟩
  · obtain rfl : l = [] := List.eq_nil_of_length_eq_zero h0
    exact ⟨IntsIs.nil w, fun a n c h => by cases h⟩
  · refine ⟨⟨_, cap, b, 0, by rw [List.length_map], by rw [List.length_map]; exact hc, fun _ => rfl, fun j hj => ?_⟩, fun a n c h => by cases h; exact hb⟩
    rw [List.length_map] at hj
    rw [cell_of_row _ _ _ _ _ _ hg]
    have h1 := congrArg (fun l => l[j]?) ht
    simp only [List.getElem?_take, Nat.mul_one, ovals, List.getElem?_map] at h1
    rw [if_pos hj, List.getElem?_eq_getElem hj] at h1
    simp only [Nat.zero_add, List.getD_eq_getElem?_getD, List.getElem?_map, List.getElem?_eq_getElem hj, Option.map_some, Option.getD_some] at *
    simpa using h1
theorem infoI : (Try.prog.info? 3).map (fun i => (i.zero, i.size, i.bytes)) = some (some (.int .i64 0), 1, 8) := by kernel_rfl
set_option maxHeartbeats 4000000 in
theorem iof_any (O : Nat → Prop) (g : Nat) (L : List En) (s : ByteArray) (w : World) (h : IxAt O w g L) :
    Calls Try.prog 9 #[ptr g, .string s] w fun e w' => ∃ v, e = .returned v ∧ IntsIs w' v ((ofX s L).map fun i : Nat => (i : Int)) ∧ Fr0 w w' ∧ ∀ a n c, v = .slice (some a) n c → w.heap.size ≤ a.block := by
  obtain ⟨ho, o, A, C, es, hp⟩ := h
  have hle := ho.le
  have c0 := hp.c0
  have HP := Lib.hid hp
  have HE : Hid (∀ (w' : World) v, w'.ownsRow w.heap.size 3 1 v (ofN s L L.length).length (ovals (ofN s L L.length)) → IntsIs w' v ((ofX s L).map fun i : Nat => (i : Int)) ∧ ∀ a n c, v = .slice (some a) n c → w.heap.size ≤ a.block) := Lib.hid (fun w' v h => ovals_is h)
  clear hp ho
  obtain ⟨n, hn⟩ : ∃ n, n = L.length := ⟨_, rfl⟩
  have HN := Lib.hid hn
  rw [← hn] at c0 hle HE
  clear hn
  unfold ptr at *
  go_enter Try.func9, Try.ntmps9
  go_wp2_with fail
  go_loopg [5, 13] n (fun kx v vi wr => ∃ (i : Nat), vi = .int .i64 (i : Int) ∧ i ≤ n ∧ n - i ≤ kx ∧ Hid (wr.ownsRow w.heap.size 3 1 v (ofN s L i).length (ovals (ofN s L i))) ∧ Hid (Fr0 w wr))
  case atStart => exact ⟨0, rfl, Nat.zero_le _, by omega, Lib.hid (World.ownsRow_nil w _ _ _), Lib.hid (Fr.refl _ _)⟩
  case round =>
    obtain ⟨i, rfl, hi, hk, HO, HF⟩ := hrel
    by_cases hlt : i < n
    · obtain ⟨b, rfl, -, -, -, k0, k1, k2, k3, k4⟩ := (HP.out.fr0 HF.out).at i (by rw [← HN.out]; exact hlt)
      have hE := gap_raw (L.getD i zeroE)
      have hS := Ord.eq_raw (L.getD i zeroE).s s
      have hkl := ofN_le s L i
      have hws := HF.out.size
      have i1 : (i : Int) < (n : Int) := by omega
      have HIN := Lib.hid (@ofN_in s L i)
      have HOUT := Lib.hid (@ofN_out s L i)
      clear HP HE
      generalize decide ((L.getD i zeroE).s = s) = d2 at *
      generalize gap (L.getD i zeroE) = d1 at *
      generalize L.getD i zeroE = q at *
      have hf2 : Fr0 wr (wr.alloc (.cells #[.string q.k, .string q.s, .int .i64 q.id, .int .i64 q.sz, .bool q.u] 28)) := (Fr.refl _ _).alloc _
      have HF2 := Lib.hid (HF.out.trans' hf2)
      have HO2 := Lib.hid (HO.out.alloc (.cells #[.string q.k, .string q.s, .int .i64 q.id, .int .i64 q.sz, .bool q.u] 28))
      have hwz : w.heap.size ≤ (wr.alloc (.cells #[.string q.k, .string q.s, .int .i64 q.id, .int .i64 q.sz, .bool q.u] 28)).heap.size := HF2.out.size
      have HWZ := Lib.hid hwz
      clear hf2 hwz HF HO
      cases d1 with
      | true =>
        have HX := Lib.hid (HOUT.out rfl)
        go_wp2
        go_roundg (n - (i + 1))
        case measure => omega
        case rel => exact ⟨i + 1, by simp, by omega, by omega, by rw [HX.out]; exact HO2, HF2⟩
      | false =>
        cases d2 with
        | false =>
          have HX := Lib.hid (HOUT.out rfl)
          go_wp2
          go_roundg (n - (i + 1))
          case measure => omega
          case rel => exact ⟨i + 1, by simp, by omega, by omega, by rw [HX.out]; exact HO2, HF2⟩
        | true =>
          have HX := Lib.hid (HIN.out rfl)
          have HSA := Lib.hid ((Fr.refl (fun _ => False) (wr.alloc (.cells #[.string q.k, .string q.s, .int .i64 q.id, .int .i64 q.sz, .bool q.u] 28))).alloc (.cells #[.int .i64 (i : Int)] 3))
          clear HIN HOUT
          go_wp2_with (refine wpList_append_vals rfl (.tmp 27) (.tmp 29) 29 rfl w.heap.size 3 Try.underlying29 (.int .i64 0) 1 8 infoI rfl (by decide) _ _ (ofN s L i).length 1 (ovals (ofN s L i)) [.int .i64 (i : Int)] rfl rfl (HO2.out.alloc _) (one_int (wr.alloc (.cells #[.string q.k, .string q.s, .int .i64 q.id, .int .i64 q.sz, .bool q.u] 28)) _ _ _ (by simp)) rfl (by intro u hu; simp at hu; subst hu; rfl) (by unfold maxLen; omega) (by omega) (Nat.le_trans HWZ.out HSA.out.size) ?_; intro v2 w2 hO2 hG2)
          have HO3 : Hid (w2.ownsRow w.heap.size 3 1 v2 (ofN s L (i + 1)).length (ovals (ofN s L (i + 1)))) := Lib.hid (by rw [HX.out, ovals_snoc, List.length_append]; exact hO2)
          have HF3 : Hid (Fr0 w w2) := Lib.hid ((HF2.out.trans' HSA.out).grown hG2 (fun q hq e => by have := HO2.out.lt q e; omega))
          clear hO2 hG2 HSA HO2
          go_wp2
          go_roundg (n - (i + 1))
          case measure => omega
          case rel => exact ⟨i + 1, by simp, by omega, by omega, HO3, HF3⟩
    · obtain rfl : i = n := by omega
      have HE2 := Lib.hid (HE.out _ _ HO.out)
      clear HE HO HP
      go_wp2
      go_ret
      exact ⟨_, rfl, HE2.out.1, HF.out, HE2.out.2⟩
end
end Go.Proofs.Ytnglmkombogheaa.Index
