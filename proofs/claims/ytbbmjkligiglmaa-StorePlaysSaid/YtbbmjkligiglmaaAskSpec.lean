/-
  Requests, their bytes, and back. No program stands here.
-/
import Derived.Test.YtbbmjkligiglmaaPackBe
namespace Go.Proofs.Ytbbmjkligiglmaa.Ask
open Go.RowKit Base Pack

structure Rq where
  k : Int
  n : List UInt8
  s : List (Int × Int)
  f : Int
  t : Int
  wn : Int
def nameCh (c : UInt8) : Bool := decide ((97 ≤ c.toNat ∧ c.toNat ≤ 122) ∨ (48 ≤ c.toNat ∧ c.toNat ≤ 57) ∨ c.toNat = 95)
def nameOk (n : List UInt8) : Bool := n.all nameCh && decide (1 ≤ n.length ∧ n.length ≤ 16)
def restOk (a : Rq) : Bool := if a.k = 1 then decide (1 ≤ a.s.length ∧ a.s.length ≤ 16 ∧ a.f = 0 ∧ a.t = 0 ∧ a.wn = 0) else if a.k = 2 then decide (a.s.length = 0 ∧ 1 ≤ a.wn ∧ a.wn ≤ 31) else false
def good (a : Rq) : Bool := nameOk a.n && restOk a
/-- its numbers are of their types -/
def Fits (a : Rq) : Prop := (∀ p ∈ a.s, (-9223372036854775808 ≤ p.1 ∧ p.1 ≤ 9223372036854775807) ∧ (-9223372036854775808 ≤ p.2 ∧ p.2 ≤ 9223372036854775807)) ∧ (-9223372036854775808 ≤ a.f ∧ a.f ≤ 9223372036854775807) ∧ (-9223372036854775808 ≤ a.t ∧ a.t ≤ 9223372036854775807)
/-- two's complement, and back -/
def tw (x : Int) : Nat := (x % 18446744073709551616).toNat
def un (v : Nat) : Int := if v < 9223372036854775808 then (v : Int) else (v : Int) - 18446744073709551616
theorem tw_lt (x : Int) : tw x < 18446744073709551616 := by unfold tw; omega
theorem un_tw (x : Int) (h : -9223372036854775808 ≤ x ∧ x ≤ 9223372036854775807) : un (tw x) = x := by unfold un tw; split <;> omega
theorem tw_un (v : Nat) (h : v < 18446744073709551616) : tw (un v) = v := by unfold un tw; split <;> omega
theorem un_in (v : Nat) (h : v < 18446744073709551616) : -9223372036854775808 ≤ un v ∧ un v ≤ 9223372036854775807 := by unfold un; split <;> omega
def sB (s : List (Int × Int)) : List UInt8 := s.flatMap fun p => be 8 (tw p.1) ++ be 8 (tw p.2)
theorem sB_length (s : List (Int × Int)) : (sB s).length = 16 * s.length := by
  induction s with
  | nil => rfl
  | cons p s ih => unfold sB at *; rw [List.flatMap_cons, List.length_append, ih, List.length_append, be_length, be_length, List.length_cons]; omega
theorem sB_snoc (s : List (Int × Int)) (p : Int × Int) : sB (s ++ [p]) = sB s ++ be 8 (tw p.1) ++ be 8 (tw p.2) := by unfold sB; simp
theorem sB_cons (s : List (Int × Int)) (p : Int × Int) : sB (p :: s) = be 8 (tw p.1) ++ (be 8 (tw p.2) ++ sB s) := by unfold sB; simp
def headB (a : Rq) : List UInt8 := UInt8.ofNat a.k.toNat :: (be 2 a.n.length ++ a.n)
def putB (a : Rq) : List UInt8 := if a.k = 1 then headB a ++ [UInt8.ofNat a.s.length] ++ sB a.s else headB a ++ be 8 (tw a.f) ++ be 8 (tw a.t) ++ [UInt8.ofNat a.wn.toNat]
def putOut (a : Rq) : List UInt8 := if good a = true then putB a else []
def putErr (a : Rq) : Int := if good a = true then 0 else 1
def zero : Rq := ⟨0, [], [], 0, 0, 0⟩
/-- n samples out of bytes -/
def parse : Nat → List UInt8 → List (Int × Int)
  | 0, _ => []
  | n + 1, l => (un (num (l.take 8)), un (num ((l.drop 8).take 8))) :: parse n (l.drop 16)
theorem parse_length (n : Nat) (l : List UInt8) : (parse n l).length = n := by
  induction n generalizing l with
  | zero => rfl
  | succ n ih => simp [parse, ih]
def fin (a : Rq) (rest : List UInt8) : Rq × Int := if 0 < rest.length ∨ good a = false then (zero, 2) else (a, 0)
def getQ (n l : List UInt8) : Rq × Int := if l.length < 17 then (zero, 3) else fin ⟨2, n, [], un (num (l.take 8)), un (num ((l.drop 8).take 8)), ((l.getD 16 0).toNat : Int)⟩ (l.drop 17)
def getP (n l : List UInt8) : Rq × Int := match l with
  | [] => (zero, 3)
  | c :: l3 => if l3.length < 16 * c.toNat then (zero, 3) else fin ⟨1, n, parse c.toNat l3, 0, 0, 0⟩ (l3.drop (16 * c.toNat))
def getB (b : List UInt8) : Rq × Int := match b with
  | [] => (zero, 3)
  | k :: l => if k.toNat = 1 ∨ k.toNat = 2 then (if bytesErr 16 l 0 = 0 then (if k.toNat = 1 then getP (bytesOut 16 l) (bytesRest 16 l) else getQ (bytesOut 16 l) (bytesRest 16 l)) else (zero, bytesErr 16 l 0)) else (zero, 2)
theorem parse_sB (s : List (Int × Int)) (y : List UInt8) (h : ∀ p ∈ s, (-9223372036854775808 ≤ p.1 ∧ p.1 ≤ 9223372036854775807) ∧ (-9223372036854775808 ≤ p.2 ∧ p.2 ≤ 9223372036854775807)) : parse s.length (sB s ++ y) = s := by
  induction s with
  | nil => rfl
  | cons p s ih =>
    have hp := h p (by simp)
    rw [List.length_cons, parse, sB_cons, List.append_assoc, List.append_assoc]
    have t1 : (be 8 (tw p.1) ++ (be 8 (tw p.2) ++ (sB s ++ y))).take 8 = be 8 (tw p.1) := by
      rw [List.take_append_of_le_length (by rw [be_length]; exact Nat.le_refl _), List.take_of_length_le (by rw [be_length]; exact Nat.le_refl _)]
    have t2 : (be 8 (tw p.1) ++ (be 8 (tw p.2) ++ (sB s ++ y))).drop 8 = be 8 (tw p.2) ++ (sB s ++ y) := by
      rw [List.drop_append_of_le_length (by rw [be_length]; exact Nat.le_refl _), List.drop_of_length_le (by rw [be_length]; exact Nat.le_refl _), List.nil_append]
    have t3 : (be 8 (tw p.2) ++ (sB s ++ y)).take 8 = be 8 (tw p.2) := by
      rw [List.take_append_of_le_length (by rw [be_length]; exact Nat.le_refl _), List.take_of_length_le (by rw [be_length]; exact Nat.le_refl _)]
    have t4 : (be 8 (tw p.1) ++ (be 8 (tw p.2) ++ (sB s ++ y))).drop 16 = sB s ++ y := by
      rw [show (16 : Nat) = 8 + 8 from rfl, ← List.drop_drop, t2, List.drop_append_of_le_length (by rw [be_length]; exact Nat.le_refl _), List.drop_of_length_le (by rw [be_length]; exact Nat.le_refl _), List.nil_append]
    rw [t1, t2, t3, t4, ih (fun q hq => h q (by simp [hq])), num_be_lt (k := 8) (by have := tw_lt p.1; omega), num_be_lt (k := 8) (by have := tw_lt p.2; omega), un_tw _ hp.1, un_tw _ hp.2]
theorem sB_parse (n : Nat) (l : List UInt8) (h : 16 * n ≤ l.length) : sB (parse n l) = l.take (16 * n) := by
  induction n generalizing l with
  | zero => rfl
  | succ n ih =>
    have hl1 : num (l.take 8) < 18446744073709551616 := by
      have := num_lt_le (l := l.take 8) (k := 8) (by rw [List.length_take]; omega)
      exact this
    have hl2 : num ((l.drop 8).take 8) < 18446744073709551616 := by
      have := num_lt_le (l := (l.drop 8).take 8) (k := 8) (by rw [List.length_take]; omega)
      exact this
    rw [parse, sB_cons, ih _ (by rw [List.length_drop]; omega), tw_un _ hl1, tw_un _ hl2, be_of_num _ 8 (by rw [List.length_take]; omega), be_of_num _ 8 (by rw [List.length_take, List.length_drop]; omega)]
    rw [show l.drop 16 = (l.drop 8).drop 8 by rw [List.drop_drop], show 16 * (n + 1) = 8 + (8 + 16 * n) by omega, List.take_add (i := 8) (j := 8 + 16 * n), List.take_add (i := 8) (j := 16 * n)]
theorem parse_fits (n : Nat) (l : List UInt8) : ∀ p ∈ parse n l, (-9223372036854775808 ≤ p.1 ∧ p.1 ≤ 9223372036854775807) ∧ (-9223372036854775808 ≤ p.2 ∧ p.2 ≤ 9223372036854775807) := by
  induction n generalizing l with
  | zero => intro p hp; simp [parse] at hp
  | succ n ih =>
    intro p hp
    rw [parse, List.mem_cons] at hp
    rcases hp with rfl | hp
    · exact ⟨un_in _ (num_lt_le (l := l.take 8) (k := 8) (by rw [List.length_take]; omega)), un_in _ (num_lt_le (l := (l.drop 8).take 8) (k := 8) (by rw [List.length_take]; omega))⟩
    · exact ih _ p hp
theorem good_name {a : Rq} (h : good a = true) : 1 ≤ a.n.length ∧ a.n.length ≤ 16 := by
  unfold good nameOk at h
  simp only [Bool.and_eq_true, decide_eq_true_eq] at h
  exact h.1.2
/-- what may be, by its kind -/
theorem good_kind {a : Rq} (h : good a = true) : (a.k = 1 ∧ 1 ≤ a.s.length ∧ a.s.length ≤ 16 ∧ a.f = 0 ∧ a.t = 0 ∧ a.wn = 0) ∨ (a.k = 2 ∧ a.s = [] ∧ 1 ≤ a.wn ∧ a.wn ≤ 31) := by
  unfold good restOk at h
  rw [Bool.and_eq_true] at h
  have h2 := h.2
  by_cases h1 : a.k = 1
  · rw [if_pos h1, decide_eq_true_eq] at h2; exact .inl ⟨h1, h2⟩
  · rw [if_neg h1] at h2
    by_cases h3 : a.k = 2
    · rw [if_pos h3, decide_eq_true_eq] at h2; exact .inr ⟨h3, List.eq_nil_of_length_eq_zero h2.1, h2.2⟩
    · rw [if_neg h3] at h2; cases h2
theorem take8 (x : Nat) (y : List UInt8) : (be 8 x ++ y).take 8 = be 8 x ∧ (be 8 x ++ y).drop 8 = y := by
  constructor
  · rw [List.take_append_of_le_length (by rw [be_length]; exact Nat.le_refl _), List.take_of_length_le (by rw [be_length]; exact Nat.le_refl _)]
  · rw [List.drop_append_of_le_length (by rw [be_length]; exact Nat.le_refl _), List.drop_of_length_le (by rw [be_length]; exact Nat.le_refl _), List.nil_append]
/-- written and read -/
theorem get_put (a : Rq) (h : good a = true) (hf : Fits a) : getB (putB a) = (a, 0) := by
  have hn := good_name h
  rcases good_kind h with ⟨h1, h2, h3, h4, h5, h6⟩ | ⟨h1, h2, h3, h4⟩
  · have hb := bytes_app 16 a.n ([UInt8.ofNat a.s.length] ++ sB a.s) 0 hn.2 (by omega)
    unfold putB headB
    rw [if_pos h1, h1]
    show getB (UInt8.ofNat 1 :: (be 2 a.n.length ++ a.n ++ [UInt8.ofNat a.s.length] ++ sB a.s)) = _
    unfold getB
    have e1 : (UInt8.ofNat 1).toNat = 1 := rfl
    simp only [e1, true_or, if_true, List.append_assoc]
    rw [show ((16 : Nat) : Int) = 16 from rfl] at hb
    rw [hb.1, hb.2.1, hb.2.2, if_pos rfl]
    unfold getP
    simp only [List.singleton_append]
    have e2 : (UInt8.ofNat a.s.length).toNat = a.s.length := UInt8.toNat_ofNat_of_lt' (by show a.s.length < 256; omega)
    have hs := sB_length a.s
    rw [e2, if_neg (by omega), List.drop_of_length_le (by omega)]
    have hp := parse_sB a.s [] hf.1
    rw [List.append_nil] at hp
    rw [hp]
    unfold fin
    have ha : (⟨1, a.n, a.s, 0, 0, 0⟩ : Rq) = a := by cases a; simp_all
    rw [ha, if_neg (by simp [h])]
  · have hb := bytes_app 16 a.n (be 8 (tw a.f) ++ (be 8 (tw a.t) ++ [UInt8.ofNat a.wn.toNat])) 0 hn.2 (by omega)
    unfold putB headB
    rw [if_neg (by omega), h1]
    show getB (UInt8.ofNat 2 :: (be 2 a.n.length ++ a.n ++ be 8 (tw a.f) ++ be 8 (tw a.t) ++ [UInt8.ofNat a.wn.toNat])) = _
    unfold getB
    have e1 : (UInt8.ofNat 2).toNat = 2 := rfl
    rw [show ((16 : Nat) : Int) = 16 from rfl] at hb
    simp only [e1, or_true, if_true, List.append_assoc]
    rw [hb.1, hb.2.1, hb.2.2, if_pos rfl, if_neg (by omega)]
    unfold getQ
    obtain ⟨p1, p2⟩ := take8 (tw a.f) (be 8 (tw a.t) ++ [UInt8.ofNat a.wn.toNat])
    obtain ⟨p3, p4⟩ := take8 (tw a.t) [UInt8.ofNat a.wn.toNat]
    have p5 : (be 8 (tw a.f) ++ (be 8 (tw a.t) ++ [UInt8.ofNat a.wn.toNat])).getD 16 0 = UInt8.ofNat a.wn.toNat := by
      rw [List.getD_eq_getElem?_getD, List.getElem?_append_right (by rw [be_length]; omega), List.getElem?_append_right (by rw [be_length, be_length]; omega), be_length, be_length]
      rfl
    have e2 : (UInt8.ofNat a.wn.toNat).toNat = a.wn.toNat := UInt8.toNat_ofNat_of_lt' (by show a.wn.toNat < 256; omega)
    rw [if_neg (by rw [List.length_append, List.length_append, be_length, be_length]; simp), p1, p2, p3, p5, e2, List.drop_of_length_le (by rw [List.length_append, List.length_append, be_length, be_length]; simp),
      num_be_lt (k := 8) (by have := tw_lt a.f; omega), num_be_lt (k := 8) (by have := tw_lt a.t; omega), un_tw _ hf.2.1, un_tw _ hf.2.2]
    unfold fin
    have ha : (⟨2, a.n, [], a.f, a.t, (a.wn.toNat : Int)⟩ : Rq) = a := by
      have : (a.wn.toNat : Int) = a.wn := by omega
      rw [this]
      cases a; simp_all
    rw [ha, if_neg (by simp [h])]
theorem fin_ok {a c : Rq} {r : List UInt8} (h : fin a r = (c, 0)) : c = a ∧ r = [] ∧ good a = true := by
  unfold fin at h
  split at h
  · simp at h
  · rename_i hn
    simp only [Prod.mk.injEq, and_true] at h
    refine ⟨h.symm, List.eq_nil_of_length_eq_zero (by omega), ?_⟩
    cases hg : good a
    · exact absurd (.inr hg) hn
    · rfl
/-- read and written -/
theorem put_get (b : List UInt8) (a : Rq) (h : getB b = (a, 0)) : good a = true ∧ putB a = b ∧ Fits a := by
  unfold getB at h
  match b, h with
  | [], h => simp at h
  | k :: l, h =>
    simp only at h
    split at h
    · rename_i hk
      split at h
      · rename_i he
        obtain ⟨s1, s2, s3⟩ := bytes_stood (m := 16) he
        rw [show ((16 : Nat) : Int) = 16 from rfl] at s1 s2 s3
        generalize bytesOut 16 l = n at *
        generalize bytesRest 16 l = r at *
        split at h
        · rename_i h1
          have hk1 : k = UInt8.ofNat 1 := UInt8.toNat_inj.1 h1
          unfold getP at h
          match r, h with
          | [], h => simp at h
          | c :: l3, h =>
            simp only at h
            split at h
            · simp at h
            · rename_i hl
              obtain ⟨rfl, hr, hg⟩ := fin_ok h
              have hd : l3 = l3.take (16 * c.toNat) := by
                have := List.take_append_drop (16 * c.toNat) l3
                rw [hr, List.append_nil] at this
                exact this.symm
              refine ⟨hg, ?_, ⟨parse_fits _ _, by simp, by simp⟩⟩
              unfold putB headB
              rw [if_pos rfl]
              simp only [parse_length]
              rw [sB_parse _ _ (by omega), ← hd, hk1, s3]
              have : UInt8.ofNat c.toNat = c := UInt8.ofNat_toNat
              rw [this]
              simp
        · rename_i h1
          have hk2 : k = UInt8.ofNat 2 := UInt8.toNat_inj.1 (by have := hk.resolve_left h1; exact this)
          unfold getQ at h
          split at h
          · simp at h
          · rename_i hl
            obtain ⟨rfl, hr, hg⟩ := fin_ok h
            have hl1 : num (r.take 8) < 18446744073709551616 := num_lt_le (l := r.take 8) (k := 8) (by rw [List.length_take]; omega)
            have hl2 : num ((r.drop 8).take 8) < 18446744073709551616 := num_lt_le (l := (r.drop 8).take 8) (k := 8) (by rw [List.length_take]; omega)
            refine ⟨hg, ?_, ⟨fun p hp => by simp at hp, un_in _ hl1, un_in _ hl2⟩⟩
            unfold putB headB
            rw [if_neg (show ¬ (2 : Int) = 1 by decide)]
            simp only
            rw [tw_un _ hl1, tw_un _ hl2, be_of_num _ 8 (by rw [List.length_take]; omega), be_of_num _ 8 (by rw [List.length_take, List.length_drop]; omega), hk2, s3]
            have e17 : r.length = 17 := by have := congrArg List.length hr; simp at this; omega
            have e3 : r = r.take 8 ++ ((r.drop 8).take 8 ++ [r.getD 16 0]) := by
              have h16 : r.drop 16 = [r.getD 16 0] := by
                rw [List.getD_eq_getElem?_getD, List.getElem?_eq_getElem (by omega), List.drop_eq_getElem_cons (by omega), List.drop_of_length_le (by omega)]
                rfl
              rw [← h16, show r.drop 16 = (r.drop 8).drop 8 by rw [List.drop_drop], List.take_append_drop, List.take_append_drop]
            have : UInt8.ofNat ((r.getD 16 0).toNat : Int).toNat = r.getD 16 0 := by rw [Int.toNat_natCast]; exact UInt8.ofNat_toNat
            rw [this]
            conv => rhs; rw [e3]
            simp
      · rename_i he
        simp only [Prod.mk.injEq] at h
        exact absurd h.2 he
    · simp at h
/-- two that may be, of the same bytes -/
theorem put_inj {a c : Rq} (ha : good a = true) (hc : good c = true) (fa : Fits a) (fc : Fits c) (h : putB a = putB c) : a = c := by
  have h1 := get_put a ha fa
  rw [h, get_put c hc fc] at h1
  exact (Prod.mk.inj h1).1.symm
theorem putB_length (a : Rq) (h : good a = true) : (putB a).length = if a.k = 1 then 4 + a.n.length + 16 * a.s.length else 20 + a.n.length := by
  unfold putB headB
  split
  · rw [List.length_append, List.length_append, List.length_cons, List.length_append, be_length, sB_length, List.length_singleton]; omega
  · rw [List.length_append, List.length_append, List.length_append, List.length_cons, List.length_append, be_length, be_length, be_length, List.length_singleton]; omega
theorem fin_err (a : Rq) (r : List UInt8) (h : (fin a r).2 ≠ 0) : (fin a r).1 = zero := by
  unfold fin at *
  split at h
  · rename_i h1; rw [if_pos h1]
  · simp at h
theorem getP_err (n l : List UInt8) (h : (getP n l).2 ≠ 0) : (getP n l).1 = zero := by
  unfold getP at *
  match l, h with
  | [], _ => rfl
  | c :: l3, h =>
    simp only at *
    split at h
    · rename_i h1; rw [if_pos h1]
    · rename_i h1; rw [if_neg h1]; exact fin_err _ _ h
theorem getQ_err (n l : List UInt8) (h : (getQ n l).2 ≠ 0) : (getQ n l).1 = zero := by
  unfold getQ at *
  split at h
  · rename_i h1; rw [if_pos h1]
  · rename_i h1; rw [if_neg h1]; exact fin_err _ _ h
theorem getB_err (b : List UInt8) (h : (getB b).2 ≠ 0) : (getB b).1 = zero := by
  match b, h with
  | [], _ => rfl
  | k :: l, h =>
    unfold getB at *
    simp only at *
    by_cases hk : k.toNat = 1 ∨ k.toNat = 2
    · rw [if_pos hk] at *
      by_cases he : bytesErr 16 l 0 = 0
      · rw [if_pos he] at *
        by_cases h1 : k.toNat = 1
        · rw [if_pos h1] at *; exact getP_err _ _ h
        · rw [if_neg h1] at *; exact getQ_err _ _ h
      · rw [if_neg he]
    · rw [if_neg hk]
end Go.Proofs.Ytbbmjkligiglmaa.Ask
