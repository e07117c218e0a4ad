/-
  Answers, their bytes, rows of them, and back. No program stands here.
-/
import Derived.Test.YtjefddliebokaaaPackBe
namespace Go.Proofs.Ytjefddliebokaaa.Reply
open Go.RowKit Base Pack

structure Rp where
  st : Int
  hit : Bool
  slot : Nat
  body : List UInt8
def good (r : Rp) : Bool := decide ((0 ≤ r.st ∧ r.st ≤ 8) ∧ r.body.length ≤ 255 ∧ (r.st = 0 ∨ (r.hit = false ∧ r.body.length = 0)))
theorem good_iff (r : Rp) : good r = true ↔ (0 ≤ r.st ∧ r.st ≤ 8) ∧ r.body.length ≤ 255 ∧ (r.st = 0 ∨ (r.hit = false ∧ r.body.length = 0)) := by unfold good; rw [decide_eq_true_eq]
def hitB (h : Bool) : UInt8 := if h then 1 else 0
def putB (r : Rp) : List UInt8 := UInt8.ofNat r.st.toNat :: hitB r.hit :: (be 4 r.slot ++ (be 2 r.body.length ++ r.body))
def putOut (r : Rp) : List UInt8 := if good r = true then putB r else []
def putErr (r : Rp) : Int := if good r = true then 0 else 1
def zero : Rp := ⟨0, false, 0, []⟩
structure Got where
  r : Rp
  n : Nat
  e : Int
def readR (b : List UInt8) : Rp := ⟨((b.getD 0 0).toNat : Int), decide ((b.getD 1 0).toNat = 1), num ((b.drop 2).take 4), bytesOut 255 (b.drop 6)⟩
def getB (b : List UInt8) : Got :=
  if b.length < 6 then ⟨zero, 0, 3⟩ else if bytesErr 255 (b.drop 6) 0 = 0 then
    (if 1 < (b.getD 1 0).toNat ∨ good (readR b) = false then ⟨zero, 0, 2⟩ else ⟨readR b, b.length - (bytesRest 255 (b.drop 6)).length, 0⟩)
  else ⟨zero, 0, bytesErr 255 (b.drop 6) 0⟩
theorem putB_length (r : Rp) : (putB r).length = 8 + r.body.length := by
  unfold putB; rw [List.length_cons, List.length_cons, List.length_append, List.length_append, be_length, be_length]; omega
theorem putB_drop (r : Rp) (y : List UInt8) : (putB r ++ y).drop 6 = be 2 r.body.length ++ (r.body ++ y) := by
  unfold putB
  rw [List.cons_append, List.cons_append, List.drop_succ_cons, List.drop_succ_cons, List.append_assoc, List.drop_append_of_le_length (by rw [be_length]; exact Nat.le_refl _), List.drop_of_length_le (by rw [be_length]; exact Nat.le_refl _), List.nil_append, List.append_assoc]
theorem hitB_nat (h : Bool) : (hitB h).toNat ≤ 1 ∧ (decide ((hitB h).toNat = 1) = h) := by cases h <;> exact ⟨by decide, by decide⟩
/-- written and read, whatever is behind -/
theorem get_put (r : Rp) (y : List UInt8) (h : good r = true) (hs : r.slot < 4294967296) : getB (putB r ++ y) = ⟨r, (putB r).length, 0⟩ := by
  obtain ⟨h1, h2, h3⟩ := (good_iff r).1 h
  have hl := putB_length r
  obtain ⟨b1, b2, b3⟩ := bytes_app 255 r.body y 0 h2 (by omega)
  rw [show ((255 : Nat) : Int) = 255 from rfl] at b1 b2 b3
  have hd := putB_drop r y
  have g0 : (putB r ++ y).getD 0 0 = UInt8.ofNat r.st.toNat := rfl
  have g1 : (putB r ++ y).getD 1 0 = hitB r.hit := rfl
  have g2 : ((putB r ++ y).drop 2).take 4 = be 4 r.slot := by
    unfold putB
    rw [List.cons_append, List.cons_append, List.drop_succ_cons, List.drop_succ_cons, List.drop_zero, List.append_assoc, List.take_append_of_le_length (by rw [be_length]; exact Nat.le_refl _), List.take_of_length_le (by rw [be_length]; exact Nat.le_refl _)]
  have e0 : (UInt8.ofNat r.st.toNat).toNat = r.st.toNat := UInt8.toNat_ofNat_of_lt' (by show r.st.toNat < 256; omega)
  have hr : readR (putB r ++ y) = r := by
    unfold readR
    rw [g0, g1, g2, hd, b1, e0, (hitB_nat r.hit).2, num_be_lt (k := 4) (by omega)]
    have : (r.st.toNat : Int) = r.st := by omega
    rw [this]
  unfold getB
  rw [if_neg (by rw [List.length_append]; omega), hd, b3, if_pos rfl, g1, hr, b2, if_neg (by have := (hitB_nat r.hit).1; simp [h]; omega)]
  congr 1
  rw [List.length_append]; omega
/-- read and written -/
theorem put_get {b : List UInt8} {r : Rp} {n : Nat} (h : getB b = ⟨r, n, 0⟩) : good r = true ∧ n = 8 + r.body.length ∧ n ≤ b.length ∧ b.take n = putB r ∧ r.slot < 4294967296 := by
  unfold getB at h
  split at h
  · simp at h
  · rename_i hl
    split at h
    · rename_i he
      obtain ⟨s1, s2, s3⟩ := bytes_stood (m := 255) he
      rw [show ((255 : Nat) : Int) = 255 from rfl] at s1 s2 s3
      split at h
      · simp at h
      · rename_i hg
        simp only [Got.mk.injEq, and_true] at h
        obtain ⟨hr, hn⟩ := h
        have hgood : good (readR b) = true := by
          cases hq : good (readR b)
          · exact absurd (.inr hq) hg
          · rfl
        have hlen := congrArg List.length s3
        rw [List.length_append, List.length_append, be_length, List.length_drop] at hlen
        have hb : (readR b).body = bytesOut 255 (b.drop 6) := rfl
        rw [hr] at hb hgood
        have hslot : num ((b.drop 2).take 4) < 4294967296 := num_lt_le (l := (b.drop 2).take 4) (k := 4) (by rw [List.length_take]; omega)
        refine ⟨hgood, by rw [hb]; omega, by omega, ?_, by rw [← hr]; exact hslot⟩
        have hn2 : n = 6 + (2 + r.body.length) := by rw [hb]; omega
        have hsp : b = b.getD 0 0 :: b.getD 1 0 :: ((b.drop 2).take 4 ++ b.drop 6) := by
          match b, hl with
          | x :: y :: b, hl =>
            have : (List.drop 6 (x :: y :: b)) = (b.drop 4) := rfl
            rw [this]
            show _ = x :: y :: (List.take 4 b ++ b.drop 4)
            rw [List.take_append_drop]
          | [x], hl => simp at hl
          | [], hl => simp at hl
        have hst : UInt8.ofNat r.st.toNat = b.getD 0 0 := by
          rw [← hr]
          show UInt8.ofNat ((((b.getD 0 0).toNat : Nat) : Int).toNat) = _
          rw [Int.toNat_natCast]
          exact UInt8.ofNat_toNat
        have hh : hitB r.hit = b.getD 1 0 := by
          rw [← hr]
          show hitB (decide ((b.getD 1 0).toNat = 1)) = _
          refine UInt8.toNat_inj.1 ?_
          by_cases h1 : (b.getD 1 0).toNat = 1
          · rw [decide_eq_true h1, h1]; rfl
          · rw [decide_eq_false h1]
            have : ¬ 1 < (b.getD 1 0).toNat := fun h => hg (.inl h)
            show (0 : Nat) = _
            omega
        have hsl : be 4 r.slot = (b.drop 2).take 4 := by
          rw [← hr]
          exact be_of_num _ 4 (by rw [List.length_take, List.length_drop]; omega)
        unfold putB
        rw [hst, hh, hsl, hn2]
        conv => lhs; rw [hsp]
        rw [show 6 + (2 + r.body.length) = (4 + (2 + r.body.length)) + 1 + 1 by omega, List.take_succ_cons, List.take_succ_cons, List.take_append, List.take_of_length_le (by rw [List.length_take, List.length_drop]; omega), List.length_take, List.length_drop, show 4 + (2 + r.body.length) - min 4 (b.length - 2) = 2 + r.body.length by omega]
        congr 3
        rw [← hb] at s3
        generalize bytesRest 255 (List.drop 6 b) = R at s3
        rw [s3, ← List.append_assoc, List.take_append_of_le_length (by rw [List.length_append, be_length]; exact Nat.le_refl _), List.take_of_length_le (by rw [List.length_append, be_length]; exact Nat.le_refl _)]
    · rename_i he
      simp only [Got.mk.injEq] at h
      exact absurd h.2.2 he
theorem put_inj {a c : Rp} (ha : good a = true) (hc : good c = true) (sa : a.slot < 4294967296) (sc : c.slot < 4294967296) (h : putB a = putB c) : a = c := by
  have h1 := get_put a [] ha sa
  rw [h, get_put c [] hc sc] at h1
  exact (Got.mk.inj h1).1.symm
theorem getB_err (b : List UInt8) (h : (getB b).e ≠ 0) : (getB b).r = zero ∧ (getB b).n = 0 := by
  unfold getB at *
  by_cases h1 : b.length < 6
  · rw [if_pos h1]; exact ⟨rfl, rfl⟩
  · rw [if_neg h1] at *
    by_cases h2 : bytesErr 255 (b.drop 6) 0 = 0
    · rw [if_pos h2] at *
      by_cases h3 : 1 < (b.getD 1 0).toNat ∨ good (readR b) = false
      · rw [if_pos h3]; exact ⟨rfl, rfl⟩
      · rw [if_neg h3] at h; simp at h
    · rw [if_neg h2]; exact ⟨rfl, rfl⟩
/-- a front of what was written is too short -/
theorem get_front (r : Rp) (h : good r = true) (n : Nat) (hn : n < (putB r).length) : (getB ((putB r).take n)).e = 3 := by
  obtain ⟨_, h2, _⟩ := (good_iff r).1 h
  have hl := putB_length r
  have hd := putB_drop r []
  rw [List.append_nil, List.append_nil] at hd
  unfold getB
  by_cases h6 : n < 6
  · rw [if_pos (by rw [List.length_take]; omega)]
  · rw [if_neg (by rw [List.length_take]; omega)]
    have hdt : ((putB r).take n).drop 6 = (be 2 r.body.length ++ r.body).take (n - 6) := by rw [List.drop_take, hd]
    have he : bytesErr 255 (((putB r).take n).drop 6) 0 = 3 := by
      rw [hdt]
      unfold bytesErr
      by_cases h8 : n - 6 < 2
      · have c1 : cutOut 2 ((be 2 r.body.length ++ r.body).take (n - 6)) = [] := by unfold cutOut; rw [if_pos (by rw [List.length_take]; omega)]
        have c2 : cutRest 2 ((be 2 r.body.length ++ r.body).take (n - 6)) = [] := by unfold cutRest; rw [if_pos (by rw [List.length_take]; omega)]
        have c3 : cutErr 2 ((be 2 r.body.length ++ r.body).take (n - 6)) 0 = 3 := by unfold cutErr failE; rw [if_pos (by rw [List.length_take]; omega), if_pos rfl]
        rw [c1, c2, c3]
        rfl
      · have ht : (be 2 r.body.length ++ r.body).take (n - 6) = be 2 r.body.length ++ r.body.take (n - 8) := by
          rw [List.take_append, be_length, List.take_of_length_le (by rw [be_length]; omega)]
          congr 2
        rw [ht, cutOut_app 2 _ _ (be_length _ _), cutRest_app 2 _ _ (be_length _ _), cutErr_app 2 _ _ _ (be_length _ _), num_be_lt (k := 2) (by omega), if_neg (by omega)]
        unfold cutErr failE
        rw [if_pos (by rw [List.length_take]; omega), if_pos rfl]
    rw [he, if_neg (by decide)]
/-- all, one behind the other -/
structure Logd where
  l : List Rp
  e : Int
def logF : Nat → List UInt8 → Logd
  | 0, _ => ⟨[], 0⟩
  | k + 1, b => if b.length = 0 then ⟨[], 0⟩ else if (getB b).e = 0 then (if (logF k (b.drop (getB b).n)).e = 0 then ⟨(getB b).r :: (logF k (b.drop (getB b).n)).l, 0⟩ else ⟨[], (logF k (b.drop (getB b).n)).e⟩) else ⟨[], (getB b).e⟩
def log (b : List UInt8) : Logd := logF b.length b
theorem logF_succ (k : Nat) (b : List UInt8) : logF (k + 1) b = if b.length = 0 then ⟨[], 0⟩ else if (getB b).e = 0 then (if (logF k (b.drop (getB b).n)).e = 0 then ⟨(getB b).r :: (logF k (b.drop (getB b).n)).l, 0⟩ else ⟨[], (logF k (b.drop (getB b).n)).e⟩) else ⟨[], (getB b).e⟩ := rfl
theorem get_n {b : List UInt8} (h : (getB b).e = 0) : 8 ≤ (getB b).n ∧ (getB b).n ≤ b.length := by
  have h1 : getB b = ⟨(getB b).r, (getB b).n, 0⟩ := by cases hq : getB b; rw [hq] at h; simp at h; simp [h]
  obtain ⟨_, h2, h3, _⟩ := put_get h1
  omega
theorem logF_le (k : Nat) (b : List UInt8) (h : b.length ≤ k) : logF k b = log b := by
  unfold log
  induction k using Nat.strongRecOn generalizing b with
  | ind k ih =>
    rcases k with _ | k
    · rw [show b.length = 0 by omega]
    · rcases hs : b.length with _ | n
      · rw [logF_succ, if_pos hs]; rfl
      · rw [logF_succ k b, logF_succ n b, if_neg (show ¬ b.length = 0 by omega), if_neg (show ¬ b.length = 0 by omega)]
        by_cases he : (getB b).e = 0
        · have hn := get_n he
          have hd : (b.drop (getB b).n).length ≤ n := by rw [List.length_drop]; omega
          rw [if_pos he, if_pos he, ih k (by omega) _ (by omega)]
          rcases Nat.lt_or_ge n (k + 1) with h1 | h1
          · rw [ih n h1 _ hd]
          · omega
        · rw [if_neg he, if_neg he]
theorem log_nil : log [] = ⟨[], 0⟩ := rfl
theorem log_step {b : List UInt8} (h : 0 < b.length) (he : (getB b).e = 0) : log b = if (log (b.drop (getB b).n)).e = 0 then ⟨(getB b).r :: (log (b.drop (getB b).n)).l, 0⟩ else ⟨[], (log (b.drop (getB b).n)).e⟩ := by
  have hn := get_n he
  conv => lhs; unfold log
  rcases hs : b.length with _ | n
  · omega
  · rw [logF_succ, if_neg (by omega), if_pos he, logF_le n _ (by rw [List.length_drop]; omega)]
theorem log_fail {b : List UInt8} (h : 0 < b.length) (he : (getB b).e ≠ 0) : log b = ⟨[], (getB b).e⟩ := by
  unfold log
  rcases hs : b.length with _ | n
  · omega
  · rw [logF_succ, if_neg (by omega), if_neg he]
theorem log_cons (r : Rp) (y : List UInt8) (h : good r = true) (hs : r.slot < 4294967296) : log (putB r ++ y) = if (log y).e = 0 then ⟨r :: (log y).l, 0⟩ else ⟨[], (log y).e⟩ := by
  have hg := get_put r y h hs
  have hl := putB_length r
  rw [log_step (by rw [List.length_append]; omega) (by rw [hg]), hg]
  simp only [List.drop_append_of_le_length (Nat.le_refl _), List.drop_of_length_le (Nat.le_refl _), List.nil_append]
/-- written one behind the other, and read so -/
theorem log_puts (l : List Rp) (h : ∀ r ∈ l, good r = true ∧ r.slot < 4294967296) : log (l.map putB).flatten = ⟨l, 0⟩ := by
  induction l with
  | nil => rfl
  | cons r l ih =>
    obtain ⟨h1, h2⟩ := h r (by simp)
    rw [List.map_cons, List.flatten_cons, log_cons r _ h1 h2, ih (fun q hq => h q (by simp [hq])), if_pos rfl]
/-- what was read is written as it was -/
theorem puts_log (b : List UInt8) (l : List Rp) (h : log b = ⟨l, 0⟩) : (l.map putB).flatten = b ∧ ∀ r ∈ l, good r = true ∧ r.slot < 4294967296 := by
  induction hn : b.length using Nat.strongRecOn generalizing b l with
  | ind n ih =>
    rcases Nat.eq_zero_or_pos b.length with h0 | h0
    · obtain rfl := List.eq_nil_of_length_eq_zero h0
      rw [log_nil] at h
      simp only [Logd.mk.injEq, and_true] at h
      subst h
      exact ⟨rfl, fun r hr => by simp at hr⟩
    · by_cases he : (getB b).e = 0
      · have hg : getB b = ⟨(getB b).r, (getB b).n, 0⟩ := by cases hq : getB b; rw [hq] at he; simp at he; simp [he]
        obtain ⟨p1, p2, p3, p4, p5⟩ := put_get hg
        rw [log_step h0 he] at h
        split at h
        · rename_i h2
          simp only [Logd.mk.injEq, and_true] at h
          obtain ⟨i1, i2⟩ := ih (b.drop (getB b).n).length (by rw [List.length_drop]; omega) (b.drop (getB b).n) _ (congrArg (Logd.mk (log (b.drop (getB b).n)).l) h2) rfl
          rw [← h, List.map_cons, List.flatten_cons, i1, ← p4, List.take_append_drop]
          refine ⟨rfl, fun r hr => ?_⟩
          rcases List.mem_cons.1 hr with rfl | hr
          · exact ⟨p1, p5⟩
          · exact i2 r hr
        · rename_i h2
          simp only [Logd.mk.injEq] at h
          exact absurd h.2 h2
      · rw [log_fail h0 he] at h
        simp only [Logd.mk.injEq] at h
        exact absurd h.2 he
/-- cut short: told, unless it is cut between two -/
theorem log_cut (l : List Rp) (h : ∀ r ∈ l, good r = true ∧ r.slot < 4294967296) (n : Nat) (hn : n ≤ (l.map putB).flatten.length) :
    (∃ k, k ≤ l.length ∧ n = ((l.take k).map putB).flatten.length ∧ log ((l.map putB).flatten.take n) = ⟨l.take k, 0⟩) ∨ ((∀ k, k ≤ l.length → n ≠ ((l.take k).map putB).flatten.length) ∧ log ((l.map putB).flatten.take n) = ⟨[], 3⟩) := by
  induction l generalizing n with
  | nil =>
    have : n = 0 := by simpa using hn
    subst this
    exact .inl ⟨0, Nat.le_refl _, rfl, rfl⟩
  | cons r l ih =>
    obtain ⟨h1, h2⟩ := h r (by simp)
    have hl := putB_length r
    rw [List.map_cons, List.flatten_cons] at hn ⊢
    rw [List.length_append] at hn
    by_cases hlt : n < (putB r).length
    · rcases Nat.eq_zero_or_pos n with rfl | hpos
      · exact .inl ⟨0, Nat.zero_le _, rfl, rfl⟩
      · have hg := get_front r h1 n hlt
        refine .inr ⟨fun k hk e => ?_, ?_⟩
        · rcases k with _ | k
          · simp at e; omega
          · rw [List.take_succ_cons, List.map_cons, List.flatten_cons, List.length_append] at e; omega
        · rw [List.take_append_of_le_length (by omega), log_fail (by rw [List.length_take]; omega) (by rw [hg]; decide), hg]
    · have ht : (putB r ++ (l.map putB).flatten).take n = putB r ++ (l.map putB).flatten.take (n - (putB r).length) := by
        rw [List.take_append, List.take_of_length_le (by omega)]
      rw [ht, log_cons r _ h1 h2]
      rcases ih (fun q hq => h q (by simp [hq])) (n - (putB r).length) (by omega) with ⟨k, k1, k2, k3⟩ | ⟨k1, k2⟩
      · refine .inl ⟨k + 1, by simp; omega, ?_, ?_⟩
        · rw [List.take_succ_cons, List.map_cons, List.flatten_cons, List.length_append, ← k2]; omega
        · rw [k3, if_pos rfl, List.take_succ_cons]
      · refine .inr ⟨fun k hk e => ?_, ?_⟩
        · rcases k with _ | k
          · simp at e; omega
          · rw [List.take_succ_cons, List.map_cons, List.flatten_cons, List.length_append] at e
            exact k1 k (by simpa using hk) (by omega)
        · rw [k2, if_neg (by decide)]
end Go.Proofs.Ytjefddliebokaaa.Reply
