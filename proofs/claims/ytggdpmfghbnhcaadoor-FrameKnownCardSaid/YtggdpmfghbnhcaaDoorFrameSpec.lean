/-
  Frames cut out of a row of bytes, as functions of lists. No program stands here.
-/
import Derived.Test.YtggdpmfghbnhcaaDoorPackSpec
import Derived.Test.YtggdpmfghbnhcaaDoorCrcSpec
namespace Go.Proofs.YtggdpmfghbnhcaaDoor.Frame
open Go.RowKit Base Pack Crc

/-- a piece: its bytes, its error -/
structure Pc where
  b : List UInt8
  e : Int
/-- pieces, what waits, dead or not -/
structure St where
  l : List Pc
  w : List UInt8
  d : Bool
def len2 (s : List UInt8) : Nat := num (s.take 2)
def soundB (s : List UInt8) : Bool := decide (num ((s.drop (len2 s + 2)).take 4) = crc 0 (s.take (len2 s + 2)))
def judge (s : List UInt8) : Pc := if soundB s then ⟨(s.drop 2).take (len2 s), 0⟩ else ⟨[], 4⟩
def cutF : Nat → List UInt8 → St
  | 0, s => ⟨[], s, false⟩
  | k + 1, s => if s.length < 2 then ⟨[], s, false⟩ else if 512 < len2 s then ⟨[⟨[], 2⟩], [], true⟩ else if s.length < len2 s + 6 then ⟨[], s, false⟩ else ⟨judge s :: (cutF k (s.drop (len2 s + 6))).l, (cutF k (s.drop (len2 s + 6))).w, (cutF k (s.drop (len2 s + 6))).d⟩
def cut (s : List UInt8) : St := cutF s.length s
theorem cutF_le (k : Nat) (s : List UInt8) (h : s.length ≤ k) : cutF k s = cut s := by
  unfold cut
  induction k using Nat.strongRecOn generalizing s with
  | ind k ih =>
    rcases k with _ | k
    · rw [show s.length = 0 by omega]
    · rcases hs : s.length with _ | n
      · obtain rfl : s = [] := List.eq_nil_of_length_eq_zero hs
        rfl
      · rw [cutF, cutF]
        by_cases h1 : s.length < 2
        · rw [if_pos h1, if_pos h1]
        rw [if_neg h1, if_neg h1]
        by_cases h2 : 512 < len2 s
        · rw [if_pos h2, if_pos h2]
        rw [if_neg h2, if_neg h2]
        by_cases h3 : s.length < len2 s + 6
        · rw [if_pos h3, if_pos h3]
        rw [if_neg h3, if_neg h3]
        have hd : (s.drop (len2 s + 6)).length ≤ n := by rw [List.length_drop]; omega
        rw [ih k (by omega) _ (by omega)]
        rcases Nat.lt_or_ge n (k + 1) with hn | hn
        · rw [ih n hn _ hd]
        · omega
theorem cut_short {s : List UInt8} (h : s.length < 2) : cut s = ⟨[], s, false⟩ := by
  unfold cut
  rcases hs : s.length with _ | n
  · rfl
  · rw [cutF, if_pos h]
theorem cut_dead {s : List UInt8} (h : 2 ≤ s.length) (h2 : 512 < len2 s) : cut s = ⟨[⟨[], 2⟩], [], true⟩ := by
  unfold cut
  rcases hs : s.length with _ | n
  · omega
  · rw [cutF, if_neg (by omega), if_pos h2]
theorem cut_wait {s : List UInt8} (h2 : len2 s ≤ 512) (h3 : s.length < len2 s + 6) : cut s = ⟨[], s, false⟩ := by
  by_cases h : s.length < 2
  · exact cut_short h
  unfold cut
  rcases hs : s.length with _ | n
  · omega
  · rw [cutF, if_neg h, if_neg (by omega), if_pos h3]
theorem cut_whole {s : List UInt8} (h2 : len2 s ≤ 512) (h3 : len2 s + 6 ≤ s.length) : cut s = ⟨judge s :: (cut (s.drop (len2 s + 6))).l, (cut (s.drop (len2 s + 6))).w, (cut (s.drop (len2 s + 6))).d⟩ := by
  conv => lhs; unfold cut
  rcases hs : s.length with _ | n
  · omega
  · rw [cutF, if_neg (by omega), if_neg (by omega), if_neg (by omega), cutF_le n _ (by rw [List.length_drop]; omega)]
theorem len2_append {s : List UInt8} (h : 2 ≤ s.length) (t : List UInt8) : len2 (s ++ t) = len2 s := by
  unfold len2; rw [List.take_append_of_le_length h]
theorem judge_append {s : List UInt8} (h : len2 s + 6 ≤ s.length) (t : List UInt8) : judge (s ++ t) = judge s := by
  unfold judge soundB
  rw [len2_append (by omega), List.take_append_of_le_length (by omega), List.drop_append_of_le_length (by omega), List.drop_append_of_le_length (by omega),
    List.take_append_of_le_length (by rw [List.length_drop]; omega), List.take_append_of_le_length (by rw [List.length_drop]; omega)]
/-- no whole frame is there, nor a length that is too great -/
def Fro (s : List UInt8) : Prop := s.length < 2 ∨ (len2 s ≤ 512 ∧ s.length < len2 s + 6)
theorem Fro.cut {s : List UInt8} (h : Fro s) : Frame.cut s = ⟨[], s, false⟩ := by
  rcases h with h | ⟨h1, h2⟩
  · exact cut_short h
  · exact cut_wait h1 h2
theorem Fro.le {s : List UInt8} (h : Fro s) : s.length ≤ 517 := by
  rcases h with h | ⟨h1, h2⟩ <;> omega
theorem fro_nil : Fro [] := .inl (by simp)
/-- what is left is the front of a frame; nothing, if it is dead -/
theorem cut_left (s : List UInt8) : ((cut s).d = false ∧ Fro (cut s).w) ∨ ((cut s).d = true ∧ (cut s).w = []) := by
  induction hn : s.length using Nat.strongRecOn generalizing s with
  | ind n ih =>
    by_cases h1 : s.length < 2
    · rw [cut_short h1]; exact .inl ⟨rfl, .inl h1⟩
    by_cases h2 : 512 < len2 s
    · rw [cut_dead (by omega) h2]; exact .inr ⟨rfl, rfl⟩
    by_cases h3 : s.length < len2 s + 6
    · rw [cut_wait (by omega) h3]; exact .inl ⟨rfl, .inr ⟨(by omega : len2 s ≤ 512), h3⟩⟩
    rw [cut_whole (by omega) (by omega)]
    exact ih _ (by rw [List.length_drop]; omega) (s.drop (len2 s + 6)) rfl
/-- then further bytes -/
def St.then (r : St) (t : List UInt8) : St := if r.d then r else ⟨r.l ++ (cut (r.w ++ t)).l, (cut (r.w ++ t)).w, (cut (r.w ++ t)).d⟩
theorem cut_append (s t : List UInt8) : cut (s ++ t) = (cut s).then t := by
  induction hn : s.length using Nat.strongRecOn generalizing s with
  | ind n ih =>
    by_cases h1 : s.length < 2
    · rw [cut_short h1]; simp [St.then]
    by_cases h2 : 512 < len2 s
    · rw [cut_dead (by omega) h2, cut_dead (by rw [List.length_append]; omega) (by rw [len2_append (by omega)]; exact h2)]; simp [St.then]
    by_cases h3 : s.length < len2 s + 6
    · rw [cut_wait (by omega) h3]; simp [St.then]
    have hl := len2_append (s := s) (by omega) t
    rw [cut_whole (s := s) (by omega) (by omega), cut_whole (s := s ++ t) (by omega) (by rw [List.length_append]; omega), hl, judge_append (by omega), List.drop_append_of_le_length (by omega),
      ih _ (by rw [List.length_drop]; omega) (s.drop (len2 s + 6)) rfl]
    unfold St.then
    cases hd : (cut (s.drop (len2 s + 6))).d <;> simp [hd]
theorem cut_count (s : List UInt8) : (cut s).l.length ≤ s.length ∧ (cut s).w.length ≤ s.length := by
  induction hn : s.length using Nat.strongRecOn generalizing s with
  | ind n ih =>
    by_cases h1 : s.length < 2
    · rw [cut_short h1]; simp; omega
    by_cases h2 : 512 < len2 s
    · rw [cut_dead (by omega) h2]; simp; omega
    by_cases h3 : s.length < len2 s + 6
    · rw [cut_wait (by omega) h3]; simp; omega
    rw [cut_whole (by omega) (by omega)]
    have := ih _ (by rw [List.length_drop]; omega) (s.drop (len2 s + 6)) rfl
    rw [List.length_drop] at this
    simp only [List.length_cons]
    omega
/-- a Feed of b, w waiting -/
def feed (w : List UInt8) (d : Bool) (b : List UInt8) : St := if d then ⟨[], [], true⟩ else cut (w ++ b)
/-- all states that there are -/
def Ok (w : List UInt8) (d : Bool) : Prop := if d then w = [] else Fro w
theorem feed_ok (w : List UInt8) (d : Bool) (b : List UInt8) : Ok (feed w d b).w (feed w d b).d := by
  unfold feed Ok
  cases d with
  | true => simp
  | false =>
    simp only [Bool.false_eq_true, if_false]
    rcases cut_left (w ++ b) with ⟨h1, h2⟩ | ⟨h1, h2⟩
    · simp [h1, h2]
    · simp [h1, h2]
theorem Ok.le {w : List UInt8} {d : Bool} (h : Ok w d) : w.length ≤ 517 := by
  unfold Ok at h
  cases d with
  | true => simp at h; subst h; simp
  | false => exact Fro.le (by simpa using h)
theorem feed_count (w : List UInt8) (d : Bool) (b : List UInt8) (h : Ok w d) : (feed w d b).l.length ≤ 517 + b.length := by
  have := h.le
  unfold feed
  cases d with
  | true => simp
  | false =>
    have := (cut_count (w ++ b)).1
    rw [List.length_append] at this
    simp only [Bool.false_eq_true, if_false]
    omega
/-- P10.2: in two parts -/
theorem feed_two (w : List UInt8) (d : Bool) (a b : List UInt8) (hok : Ok w d) : feed w d (a ++ b) = ⟨(feed w d a).l ++ (feed (feed w d a).w (feed w d a).d b).l, (feed (feed w d a).w (feed w d a).d b).w, (feed (feed w d a).w (feed w d a).d b).d⟩ := by
  unfold feed
  cases d with
  | true => simp
  | false =>
    simp only [Bool.false_eq_true, if_false]
    rw [← List.append_assoc, cut_append]
    unfold St.then
    rcases cut_left (w ++ a) with ⟨h1, _⟩ | ⟨h1, h2⟩
    · simp [h1]
    · simp [h1, h2]
      rcases hc : cut (w ++ a) with ⟨l, w', d'⟩
      simp [hc] at h1 h2
      simp [h1, h2]

/-- one round of Feed: the front of b is laid behind what waits -/
def needOf (w : List UInt8) : Nat := if w.length < 2 then 6 else len2 w + 6
def errOf (s : List UInt8) : Int := if s.length < 2 then 3 else if 512 < len2 s then 2 else if s.length < len2 s + 6 then 3 else 0
theorem Fro.need {w : List UInt8} (h : Fro w) : w.length < needOf w ∧ needOf w ≤ 518 := by
  unfold needOf
  rcases h with h | ⟨h1, h2⟩
  · rw [if_pos h]; omega
  · split <;> omega
theorem round_more {s : List UInt8} (h : errOf s = 3) : Fro s := by
  unfold errOf at h
  by_cases h1 : s.length < 2
  · exact .inl h1
  · rw [if_neg h1] at h
    by_cases h2 : 512 < len2 s
    · rw [if_pos h2] at h; omega
    · rw [if_neg h2] at h
      by_cases h3 : s.length < len2 s + 6
      · exact .inr ⟨by omega, h3⟩
      · rw [if_neg h3] at h; omega
theorem round_dead {s : List UInt8} (t : List UInt8) (h : errOf s = 2) : cut (s ++ t) = ⟨[⟨[], 2⟩], [], true⟩ := by
  unfold errOf at h
  by_cases h1 : s.length < 2
  · rw [if_pos h1] at h; omega
  · rw [if_neg h1] at h
    by_cases h2 : 512 < len2 s
    · exact cut_dead (by rw [List.length_append]; omega) (by rw [len2_append (by omega)]; exact h2)
    · rw [if_neg h2] at h; split at h <;> omega
theorem round_zero {s : List UInt8} (h : errOf s = 0) : 2 ≤ s.length ∧ len2 s ≤ 512 ∧ len2 s + 6 ≤ s.length := by
  unfold errOf at h
  by_cases h1 : s.length < 2
  · rw [if_pos h1] at h; omega
  · rw [if_neg h1] at h
    by_cases h2 : 512 < len2 s
    · rw [if_pos h2] at h; omega
    · rw [if_neg h2] at h
      by_cases h3 : s.length < len2 s + 6
      · rw [if_pos h3] at h; omega
      · omega
theorem errOf_cases (s : List UInt8) : errOf s = 3 ∨ errOf s = 2 ∨ errOf s = 0 := by
  unfold errOf
  split
  · exact .inl rfl
  · split
    · exact .inr (.inl rfl)
    · split
      · exact .inl rfl
      · exact .inr (.inr rfl)
/-- what was laid is one frame and no byte more -/
theorem round_whole {w b : List UInt8} {n : Nat} (hf : Fro w) (hn : n ≤ needOf w - w.length) (h : errOf (w ++ b.take n) = 0) (t : List UInt8) :
    cut (w ++ b.take n ++ t) = ⟨judge (w ++ b.take n) :: (cut t).l, (cut t).w, (cut t).d⟩ := by
  obtain ⟨h1, h2, h3⟩ := round_zero h
  have hlen : (w ++ b.take n).length ≤ len2 (w ++ b.take n) + 6 := by
    have hl : (w ++ b.take n).length ≤ w.length + n := by rw [List.length_append, List.length_take]; omega
    have := hf.need
    by_cases hw : w.length < 2
    · unfold needOf at hn; rw [if_pos hw] at hn; omega
    · unfold needOf at hn this; rw [if_neg hw] at hn this; rw [len2_append (by omega)]; omega
  have hl := len2_append h1 t
  rw [cut_whole (s := w ++ b.take n ++ t) (by omega) (by rw [List.length_append]; omega), hl, judge_append h3, List.drop_append_of_le_length (by omega), List.drop_of_length_le (by omega), List.nil_append]

/-- the reader's answers -/
theorem reader_err (s : List UInt8) : cutErr 4 (bytesRest 512 s) (bytesErr 512 s 0) = errOf s := by
  unfold errOf bytesRest bytesErr
  by_cases h1 : s.length < 2
  · have e1 : cutOut 2 s = [] := by unfold cutOut; rw [if_pos h1]
    have e2 : cutRest 2 s = [] := by unfold cutRest; rw [if_pos h1]
    have e3 : cutErr 2 s 0 = 3 := by unfold cutErr; rw [if_pos h1]; rfl
    rw [if_pos h1, e1, e2, e3]
    rfl
  · have e1 : cutOut 2 s = s.take 2 := by unfold cutOut; rw [if_neg h1]
    have e2 : cutRest 2 s = s.drop 2 := by unfold cutRest; rw [if_neg h1]
    have e3 : cutErr 2 s 0 = 0 := by unfold cutErr; rw [if_neg h1]
    rw [if_neg h1, e1, e2, e3]
    show cutErr 4 (if (512 : Int) < (len2 s : Int) then [] else cutRest (len2 s) (s.drop 2)) (if (512 : Int) < (len2 s : Int) then failE 2 0 else cutErr (len2 s) (s.drop 2) 0) = _
    by_cases h2 : 512 < len2 s
    · rw [if_pos h2, if_pos (by omega), if_pos (by omega)]; rfl
    · rw [if_neg h2, if_neg (by omega), if_neg (by omega)]
      unfold cutErr cutRest
      rw [List.length_drop]
      by_cases h3 : s.length - 2 < len2 s
      · rw [if_pos h3, if_pos h3, if_pos (show ([] : List UInt8).length < 4 by simp), if_pos (show s.length < len2 s + 6 by omega)]; rfl
      · rw [if_neg h3, if_neg h3, List.length_drop, List.length_drop]
        by_cases h4 : s.length < len2 s + 6
        · rw [if_pos h4, if_pos (by omega)]; rfl
        · rw [if_neg h4, if_neg (by omega)]
theorem reader_out {s : List UInt8} (h : errOf s = 0) : bytesOut 512 s = (s.drop 2).take (len2 s) ∧ num (cutOut 4 (bytesRest 512 s)) = num ((s.drop (len2 s + 2)).take 4) := by
  obtain ⟨h1, h2, h3⟩ := round_zero h
  have e1 : cutOut 2 s = s.take 2 := by unfold cutOut; rw [if_neg (by omega)]
  have e2 : cutRest 2 s = s.drop 2 := by unfold cutRest; rw [if_neg (by omega)]
  unfold bytesOut bytesRest
  rw [e1, e2]
  show (if (512 : Int) < (len2 s : Int) then [] else cutOut (len2 s) (s.drop 2)) = _ ∧ num (cutOut 4 (if (512 : Int) < (len2 s : Int) then [] else cutRest (len2 s) (s.drop 2))) = _
  rw [if_neg (by omega), if_neg (by omega)]
  unfold cutOut cutRest
  have hA : ¬ s.length - 2 < len2 s := by omega
  simp only [List.length_drop, if_neg hA]
  rw [if_neg (by omega), List.drop_drop, Nat.add_comm 2 (len2 s)]
  exact ⟨trivial, rfl⟩
theorem cutRest_le (n : Nat) (l : List UInt8) : (cutRest n l).length ≤ l.length := by
  unfold cutRest; split
  · simp
  · rw [List.length_drop]; omega
theorem bytesRest_le (m : Int) (l : List UInt8) : (bytesRest m l).length ≤ l.length := by
  unfold bytesRest; split
  · simp
  · exact Nat.le_trans (cutRest_le _ _) (cutRest_le _ _)
theorem need_out (w : List UInt8) : 2 + num (cutOut 2 w) + 4 = needOf w := by
  unfold cutOut needOf
  by_cases h : w.length < 2
  · rw [if_pos h, if_pos h]; rfl
  · rw [if_neg h, if_neg h]; show 2 + len2 w + 4 = _; omega

/-- a frame of p -/
def frameOf (p : List UInt8) : List UInt8 := be 2 p.length ++ p ++ be 4 (crc 0 (be 2 p.length ++ p))
theorem frameOf_length (p : List UInt8) : (frameOf p).length = p.length + 6 := by
  unfold frameOf; rw [List.length_append, List.length_append, be_length, be_length]; omega
theorem be_num (l : List UInt8) : be l.length (num l) = l := by
  have h1 := num_be l.length (num l)
  rw [Nat.mod_eq_of_lt (num_lt l)] at h1
  have key : ∀ (a b : List UInt8), a.length = b.length → num a = num b → a = b := by
    intro a
    obtain ⟨a, rfl⟩ : ∃ m : List UInt8, a = m.reverse := ⟨a.reverse, by simp⟩
    induction a with
    | nil => intro b hb _; exact (List.eq_nil_of_length_eq_zero (by simpa using hb.symm)).symm
    | cons x a ih =>
      intro b hb h
      obtain ⟨b, rfl⟩ : ∃ m : List UInt8, b = m.reverse := ⟨b.reverse, by simp⟩
      rcases b with _ | ⟨y, b⟩
      · simp at hb
      · rw [List.reverse_cons, List.reverse_cons, num_append, num_append] at h
        have := x.toNat_lt
        have := y.toNat_lt
        have hx : x = y := UInt8.toNat_inj.1 (by omega)
        have := ih b.reverse (by simpa using hb) (by omega)
        rw [List.reverse_cons, List.reverse_cons, this, hx]
  exact key _ _ (by rw [be_length]) h1
theorem len2_frame (p t : List UInt8) (h : p.length ≤ 512) : len2 (frameOf p ++ t) = p.length := by
  unfold len2 frameOf
  rw [List.append_assoc, List.append_assoc, List.take_append_of_le_length (by rw [be_length]; omega), List.take_of_length_le (by rw [be_length]; omega), num_be]
  exact Nat.mod_eq_of_lt (by omega)
/-- a whole frame is sound just if it is the frame of its bytes -/
theorem sound_iff {s : List UInt8} (h1 : 2 ≤ s.length) (h2 : len2 s ≤ 512) (h3 : len2 s + 6 ≤ s.length) : soundB s = decide (frameOf ((s.drop 2).take (len2 s)) = s.take (len2 s + 6)) := by
  have hb : ((s.drop 2).take (len2 s)).length = len2 s := by rw [List.length_take, List.length_drop]; omega
  have e2 : be 2 (len2 s) = s.take 2 := by
    have := be_num (s.take 2)
    rwa [show (s.take 2).length = 2 from by rw [List.length_take]; omega] at this
  have ef : s.take 2 ++ (s.drop 2).take (len2 s) = s.take (len2 s + 2) := by rw [Nat.add_comm, List.take_add]
  have e6 : s.take (len2 s + 6) = s.take (len2 s + 2) ++ (s.drop (len2 s + 2)).take 4 := by rw [show len2 s + 6 = (len2 s + 2) + 4 from rfl, List.take_add]
  have h4 : ((s.drop (len2 s + 2)).take 4).length = 4 := by rw [List.length_take, List.length_drop]; omega
  unfold soundB
  rw [decide_eq_decide]
  unfold frameOf
  rw [hb, e2, ef, e6]
  have hc := crc_lt 0 (s.take (len2 s + 2)) (by decide)
  have hbn := be_num ((s.drop (len2 s + 2)).take 4)
  rw [h4] at hbn
  generalize (s.drop (len2 s + 2)).take 4 = x at *
  constructor
  · intro h
    rw [← h, hbn]
  · intro h
    have h := List.append_cancel_left h
    rw [← h, num_be]
    exact Nat.mod_eq_of_lt hc
theorem judge_frame (p t : List UInt8) (h : p.length ≤ 512) : judge (frameOf p ++ t) = ⟨p, 0⟩ := by
  have hl := len2_frame p t h
  have hfl := frameOf_length p
  have hbody : ((frameOf p ++ t).drop 2).take (len2 (frameOf p ++ t)) = p := by
    rw [hl]
    unfold frameOf
    rw [List.append_assoc, List.append_assoc, List.drop_append_of_le_length (by rw [be_length]; omega), List.drop_of_length_le (by rw [be_length]; omega), List.nil_append, List.take_append_of_le_length (by omega), List.take_length]
  have hs : soundB (frameOf p ++ t) = true := by
    rw [sound_iff (by rw [List.length_append]; omega) (by omega) (by rw [List.length_append]; omega), hbody, hl, List.take_append_of_le_length (by omega), List.take_of_length_le (by omega)]
    simp
  unfold judge
  rw [hs, hbody, if_pos rfl]
theorem cut_frame (p t : List UInt8) (h : p.length ≤ 512) : cut (frameOf p ++ t) = ⟨⟨p, 0⟩ :: (cut t).l, (cut t).w, (cut t).d⟩ := by
  have hl := len2_frame p t h
  have hfl := frameOf_length p
  rw [cut_whole (by omega) (by rw [List.length_append]; omega), judge_frame p t h, hl, List.drop_append_of_le_length (by omega), List.drop_of_length_le (by omega), List.nil_append]
theorem cut_nil : cut [] = ⟨[], [], false⟩ := cut_short (by simp)
/-- what was made frames of comes out, one by one -/
theorem cut_frames (L : List (List UInt8)) (h : ∀ p ∈ L, p.length ≤ 512) : cut (L.map frameOf).flatten = ⟨L.map fun p => ⟨p, 0⟩, [], false⟩ := by
  induction L with
  | nil => exact cut_nil
  | cons p L ih =>
    rw [List.map_cons, List.flatten_cons, cut_frame p _ (h p (by simp)), ih (fun q hq => h q (by simp [hq]))]
    rfl
/-- four bytes behind the length of a frame are others -/
def over4 (b : List UInt8) (m : Nat) (t : List UInt8) : List UInt8 := b.take m ++ t ++ b.drop (m + 4)
theorem over4_length (b t : List UInt8) (m : Nat) (h : m + 4 ≤ b.length) (ht : t.length = 4) : (over4 b m t).length = b.length := by
  unfold over4; rw [List.length_append, List.length_append, List.length_take, List.length_drop]; omega
theorem cut_spoilt (p t y : List UInt8) (m : Nat) (h : p.length ≤ 512) (h2 : 2 ≤ m) (hm : m + 8 ≤ (frameOf p).length) (ht : t.length = 4) :
    cut (over4 (frameOf p) m t ++ y) = ⟨(if over4 (frameOf p) m t = frameOf p then ⟨p, 0⟩ else ⟨[], 4⟩) :: (cut y).l, (cut y).w, (cut y).d⟩ := by
  have hfl := frameOf_length p
  have hol := over4_length (frameOf p) t m (by omega) ht
  by_cases he : over4 (frameOf p) m t = frameOf p
  · rw [if_pos he, he, cut_frame p y h]
  · rw [if_neg he]
    have hl : len2 (over4 (frameOf p) m t) = p.length := by
      have := len2_frame p [] h
      rw [List.append_nil] at this
      unfold len2 at this ⊢
      rw [← this]
      congr 1
      unfold over4
      rw [List.append_assoc, List.take_append_of_le_length (by rw [List.length_take]; omega), List.take_take, Nat.min_eq_left h2]
    have hl2 := len2_append (s := over4 (frameOf p) m t) (by omega) y
    rw [cut_whole (by omega) (by rw [List.length_append]; omega), judge_append (by omega), hl2, hl, List.drop_append_of_le_length (by omega), List.drop_of_length_le (by omega), List.nil_append]
    congr 2
    unfold judge
    rw [if_neg]
    unfold soundB
    rw [hl, decide_eq_true_eq]
    intro hs
    apply he
    -- the frame in three: ahead, the four, behind (up to the sum)
    have hF : (frameOf p).take (p.length + 2) = be 2 p.length ++ p := by
      unfold frameOf
      rw [List.take_append_of_le_length (by rw [List.length_append, be_length]; omega), List.take_of_length_le (by rw [List.length_append, be_length]; omega)]
    have hS : (frameOf p).drop (p.length + 2) = be 4 (crc 0 (be 2 p.length ++ p)) := by
      unfold frameOf
      rw [List.drop_append_of_le_length (by rw [List.length_append, be_length]; omega), List.drop_of_length_le (by rw [List.length_append, be_length]; omega), List.nil_append]
    have hOS : (over4 (frameOf p) m t).drop (p.length + 2) = (frameOf p).drop (p.length + 2) := by
      unfold over4
      rw [List.drop_append, List.drop_of_length_le (by rw [List.length_append, List.length_take]; omega), List.nil_append, List.drop_drop, List.length_append, List.length_take]
      congr 1
      omega
    have hOT : (over4 (frameOf p) m t).take (p.length + 2) = over4 ((frameOf p).take (p.length + 2)) m t := by
      unfold over4
      rw [List.take_append, List.take_of_length_le (by rw [List.length_append, List.length_take]; omega), List.take_take, Nat.min_eq_left (by omega), List.drop_take, List.length_append, List.length_take]
      congr 2
      omega
    rw [hOS, hS, List.take_of_length_le (by rw [be_length]; omega), num_be, Nat.mod_eq_of_lt (crc_lt 0 _ (by decide)), hOT, ← hF] at hs
    generalize hX : (frameOf p).take (p.length + 2) = X at *
    have hXl : X.length = p.length + 2 := by rw [← hX, List.length_take]; omega
    have e : X = X.take m ++ (X.drop m).take 4 ++ X.drop (m + 4) := by
      rw [List.append_assoc, ← List.drop_drop, List.take_append_drop, List.take_append_drop]
    have k := crc_tells (X.take m) ((X.drop m).take 4) t (X.drop (m + 4)) (by rw [List.length_take, List.length_drop]; omega) ht (by rw [← e]; exact hs)
    have hX2 : over4 X m t = X := by unfold over4; rw [← k, ← e]
    rw [← List.take_append_drop (p.length + 2) (over4 (frameOf p) m t), hOT, hOS, hX2, ← hX, List.take_append_drop]
end Go.Proofs.YtggdpmfghbnhcaaDoor.Frame
