/-
  What the reference's GetAsk reckons is what getB tells.
-/
import Derived.Test.YtemfohccnpopfaaAskRefGet
import Derived.Laws.BitsLemmas
namespace Go.Proofs.Ytemfohccnpopfaa.Ask
open Go.RowKit Base Pack

theorem un_wrap (x : Nat) (h : x < 18446744073709551616) : IntKind.i64.wrap (x : Int) = un x := by
  rw [IntKind.wrap_i64]
  unfold un
  split <;> omega
theorem conv_un (x : Nat) (h : x < 18446744073709551616) (w : World) : (convert 65 2 (.int .u64 (x : Int))).run Try.prog w = .ok (.int .i64 (un x)) w := by
  have h1 := run_convert_int (P := Try.prog) w 65 2 .u64 (x : Int) (by rw [Try.underlying65]; rfl) (by kernel_rfl)
  rw [show Try.prog.intKind 2 = .i64 by kernel_rfl] at h1
  rw [h1, un_wrap x h]
theorem r1_nil : num (refOut 1 [] 0) = 0 ∧ refRest 1 [] 0 = [] ∧ refErr 1 [] 0 = 3 := by
  obtain ⟨h1, h2, h3⟩ := r_short (n := 1) (b := []) (by simp)
  rw [show ((1 : Nat) : Int) = 1 from rfl] at h1 h2 h3
  rw [h1, h2, h3]
  exact ⟨rfl, rfl, rfl⟩
theorem r1_cons (k : UInt8) (l : List UInt8) : num (refOut 1 (k :: l) 0) = k.toNat ∧ refRest 1 (k :: l) 0 = l ∧ refErr 1 (k :: l) 0 = 0 := by
  obtain ⟨h1, h2, h3⟩ := r_ok (n := 1) (b := k :: l) (by simp)
  rw [show ((1 : Nat) : Int) = 1 from rfl] at h1 h2 h3
  rw [h1, h2, h3]
  exact ⟨by simp [num], rfl, rfl⟩
theorem get_q {b b1 b2 b3 b4 b5 nm : List UInt8} {e1 e2 e3 e4 e5 : Int} {K f t wn : Nat} (hK : K = num (refOut 1 b 0)) (h1 : b1 = refRest 1 b 0) (g1 : e1 = refErr 1 b 0) (hn : nm = refBytesOut 16 b1 e1) (h2 : b2 = refBytesRest 16 b1 e1) (g2 : e2 = refBytesErr 16 b1 e1)
    (hf : f = num (refOut 8 b2 e2)) (h3 : b3 = refRest 8 b2 e2) (g3 : e3 = refErr 8 b2 e2) (ht : t = num (refOut 8 b3 e3)) (h4 : b4 = refRest 8 b3 e3) (g4 : e4 = refErr 8 b3 e3) (hw : wn = num (refOut 1 b4 e4)) (h5 : b5 = refRest 1 b4 e4) (g5 : e5 = refErr 1 b4 e4)
    (hk1 : ¬ K = 1) (hC : ¬ (e1 = 0 ∧ ¬ K = 1 ∧ ¬ K = 2)) : (¬ e5 = 0 → getB b = (zero, e5)) ∧ (e5 = 0 → K = 2 ∧ getB b = fin ⟨2, nm, [], un f, un t, (wn : Int)⟩ b5) := by
  have err8 : ∀ {b : List UInt8} {e : Int}, ¬ e = 0 → refOut 8 b e = [] ∧ refRest 8 b e = b ∧ refErr 8 b e = e := fun h => r_err (n := 8) h
  have err1 : ∀ {b : List UInt8} {e : Int}, ¬ e = 0 → refOut 1 b e = [] ∧ refRest 1 b e = b ∧ refErr 1 b e = e := fun h => r_err (n := 1) h
  have stays : ¬ e2 = 0 → e5 = e2 := fun he => by
    have a3 : e3 = e2 := by rw [g3, (err8 he).2.2]
    have a4 : e4 = e3 := by rw [g4, (err8 (by rw [a3]; exact he)).2.2]
    rw [g5, (err1 (by rw [a4, a3]; exact he)).2.2, a4, a3]
  cases b with
  | nil =>
    obtain ⟨p1, p2, p3⟩ := r1_nil
    have he : e1 = 3 := by rw [g1, p3]
    have he2 : e2 = 3 := by rw [g2, (rbytes_err (m := 16) (b := b1) (e := e1) (by omega)).2, he]
    have h5' := stays (by omega)
    refine ⟨fun _ => by rw [h5', he2]; rfl, fun h => by omega⟩
  | cons k l =>
    obtain ⟨p1, p2, p3⟩ := r1_cons k l
    have hkk : K = k.toNat := by rw [hK, p1]
    have he : e1 = 0 := by rw [g1, p3]
    have hb1 : b1 = l := by rw [h1, p2]
    have hk2 : K = 2 := by
      by_cases h : K = 2
      · exact h
      · exact absurd ⟨he, hk1, h⟩ hC
    obtain ⟨q1, q2, q3⟩ := rbytes_ok 16 l
    rw [he, hb1] at hn h2 g2
    rw [q1] at hn
    rw [q2] at g2
    have hgb : getB (k :: l) = if bytesErr 16 l 0 = 0 then getQ (bytesOut 16 l) (bytesRest 16 l) else (zero, bytesErr 16 l 0) := by
      show (if k.toNat = 1 ∨ k.toNat = 2 then _ else _) = _
      rw [if_pos (.inr (by omega))]
      by_cases hb : bytesErr 16 l 0 = 0
      · rw [if_pos hb, if_pos hb, if_neg (by omega)]
      · rw [if_neg hb, if_neg hb]
    rw [hgb]
    by_cases hb : bytesErr 16 l 0 = 0
    · rw [if_pos hb]
      rw [q3 hb] at h2
      rw [← hn, ← h2]
      rw [hb] at g2
      subst g2
      unfold getQ
      by_cases l8 : b2.length < 8
      · obtain ⟨_, _, s3⟩ := r_short (n := 8) (b := b2) l8
        have a3 : e3 = 3 := by rw [g3]; exact s3
        have a4 : e4 = 3 := by rw [g4, (err8 (by omega)).2.2, a3]
        have a5 : e5 = 3 := by rw [g5, (err1 (by omega)).2.2, a4]
        exact ⟨fun _ => by rw [if_pos (by omega), a5], fun h => by omega⟩
      · obtain ⟨s1, s2, s3⟩ := r_ok (n := 8) (b := b2) (by omega)
        rw [show ((8 : Nat) : Int) = 8 from rfl] at s1 s2 s3
        rw [s1] at hf
        rw [s2] at h3
        rw [s3] at g3
        subst g3
        have hl3 : b3.length = b2.length - 8 := by rw [h3, List.length_drop]
        by_cases l16 : b3.length < 8
        · obtain ⟨_, _, s3⟩ := r_short (n := 8) (b := b3) l16
          have a4 : e4 = 3 := by rw [g4]; exact s3
          have a5 : e5 = 3 := by rw [g5, (err1 (by omega)).2.2, a4]
          exact ⟨fun _ => by rw [if_pos (by omega), a5], fun h => by omega⟩
        · obtain ⟨s1, s2, s3⟩ := r_ok (n := 8) (b := b3) (by omega)
          rw [show ((8 : Nat) : Int) = 8 from rfl] at s1 s2 s3
          rw [s1] at ht
          rw [s2] at h4
          rw [s3] at g4
          subst g4
          have hl4 : b4.length = b3.length - 8 := by rw [h4, List.length_drop]
          have hd4 : b4 = b2.drop 16 := by rw [h4, h3, List.drop_drop]
          cases hb4 : b4 with
          | nil =>
            rw [hb4] at g5 hl4
            have a5 : e5 = 3 := by rw [g5]; exact r1_nil.2.2
            exact ⟨fun _ => by rw [if_pos (by simp at hl4; omega), a5], fun h => by omega⟩
          | cons c r =>
            obtain ⟨s1, s2, s3⟩ := r1_cons c r
            rw [hb4] at g5 h5 hw hl4
            rw [s1] at hw
            rw [s2] at h5
            rw [s3] at g5
            refine ⟨fun h => absurd g5 h, fun _ => ⟨hk2, ?_⟩⟩
            rw [if_neg (by simp at hl4; omega), hf, ht, h3, hw]
            have hd : b2.drop 16 = c :: r := by rw [← hd4, hb4]
            have hg : b2.getD 16 0 = c := by
              rw [List.getD_eq_getElem?_getD]
              have := congrArg (fun x : List UInt8 => x[0]?) hd
              simp only [List.getElem?_drop, List.getElem?_cons_zero] at this
              rw [this]
              rfl
            have hr : b2.drop 17 = r := by
              rw [show (17 : Nat) = 16 + 1 from rfl, ← List.drop_drop, hd]
              rfl
            rw [hg, hr, h5]
    · rw [if_neg hb]
      have h5' := stays (by rw [g2]; exact hb)
      refine ⟨fun _ => by rw [h5', g2], fun h => absurd (by rw [← g2, ← h5']; exact h) hb⟩
/-- the samples: where the loop stands -/
def At (n : Nat) (l3 : List UInt8) (i : Nat) (bb : List UInt8) (e : Int) (S : List (Int × Int)) : Prop := (e = 0 ∧ 16 * i ≤ l3.length ∧ bb = l3.drop (16 * i) ∧ S = parse i l3) ∨ (e = 3 ∧ l3.length < 16 * n ∧ S.length ≤ i)
theorem At.start (n : Nat) (l3 : List UInt8) : At n l3 0 l3 0 [] := .inl ⟨rfl, by omega, rfl, rfl⟩
theorem At.len {n i : Nat} {l3 bb : List UInt8} {e : Int} {S : List (Int × Int)} (h : At n l3 i bb e S) : S.length ≤ i := by
  rcases h with ⟨_, _, _, rfl⟩ | ⟨_, _, h⟩
  · rw [parse_length]; exact Nat.le_refl _
  · exact h
theorem At.next {n i : Nat} {l3 bb b1 b2 : List UInt8} {e1 e2 : Int} {S : List (Int × Int)} {T U : Nat} (h : At n l3 i bb 0 S) (hi : i < n) (hT : T = num (refOut 8 bb 0)) (h1 : b1 = refRest 8 bb 0) (g1 : e1 = refErr 8 bb 0) (hU : U = num (refOut 8 b1 e1)) (h2 : b2 = refRest 8 b1 e1) (g2 : e2 = refErr 8 b1 e1) : At n l3 (i + 1) b2 e2 (S ++ [(un T, un U)]) := by
  rcases h with ⟨_, hl, rfl, rfl⟩ | ⟨h, _⟩
  · by_cases l8 : (l3.drop (16 * i)).length < 8
    · obtain ⟨_, _, s3⟩ := r_short (n := 8) l8
      have a1 : e1 = 3 := by rw [g1]; exact s3
      have a2 : e2 = 3 := by rw [g2, (show refErr 8 b1 e1 = e1 from (r_err (n := 8) (by omega)).2.2), a1]
      rw [List.length_drop] at l8
      exact .inr ⟨a2, by omega, by rw [List.length_append, parse_length]; exact Nat.le_refl _⟩
    · obtain ⟨s1, s2, s3⟩ := r_ok (n := 8) (b := l3.drop (16 * i)) (by omega)
      rw [show ((8 : Nat) : Int) = 8 from rfl] at s1 s2 s3
      rw [s1] at hT
      rw [s2, List.drop_drop] at h1
      rw [s3] at g1
      subst g1 h1
      rw [List.length_drop] at l8
      by_cases l16 : (l3.drop (16 * i + 8)).length < 8
      · obtain ⟨_, _, s3⟩ := r_short (n := 8) l16
        have a2 : e2 = 3 := by rw [g2]; exact s3
        rw [List.length_drop] at l16
        exact .inr ⟨a2, by omega, by rw [List.length_append, parse_length]; exact Nat.le_refl _⟩
      · obtain ⟨s1, s2, s3⟩ := r_ok (n := 8) (b := l3.drop (16 * i + 8)) (by omega)
        rw [show ((8 : Nat) : Int) = 8 from rfl] at s1 s2 s3
        rw [List.length_drop] at l16
        refine .inl ⟨by rw [g2, s3], by omega, by rw [h2, s2, List.drop_drop]; congr 1, ?_⟩
        rw [parse_snoc, hT, hU, s1]
  · omega
theorem get_p {b b1 b2 b3 bb nm : List UInt8} {e1 e2 e3 e : Int} {n i : Nat} {S : List (Int × Int)} (hK : 1 = num (refOut 1 b 0)) (h1 : b1 = refRest 1 b 0) (g1 : e1 = refErr 1 b 0) (hn : nm = refBytesOut 16 b1 e1) (h2 : b2 = refBytesRest 16 b1 e1) (g2 : e2 = refBytesErr 16 b1 e1)
    (hc : n = num (refOut 1 b2 e2)) (h3 : b3 = refRest 1 b2 e2) (g3 : e3 = refErr 1 b2 e2) (hi : i ≤ n) (hend : ¬ (i < n ∧ e = 0)) (hat : (e3 = 0 ∧ At n b3 i bb e S) ∨ (¬ e3 = 0 ∧ i = 0 ∧ bb = b3 ∧ e = e3)) :
    (¬ e = 0 → getB b = (zero, e)) ∧ (e = 0 → getB b = fin ⟨1, nm, S, 0, 0, 0⟩ bb) := by
  cases b with
  | nil => rw [r1_nil.1] at hK; omega
  | cons k l =>
    obtain ⟨p1, p2, p3⟩ := r1_cons k l
    have hkk : k.toNat = 1 := by rw [← p1, ← hK]
    have he : e1 = 0 := by rw [g1, p3]
    have hb1 : b1 = l := by rw [h1, p2]
    obtain ⟨q1, q2, q3⟩ := rbytes_ok 16 l
    rw [he, hb1] at hn h2 g2
    rw [q1] at hn
    rw [q2] at g2
    have hgb : getB (k :: l) = if bytesErr 16 l 0 = 0 then getP (bytesOut 16 l) (bytesRest 16 l) else (zero, bytesErr 16 l 0) := by
      show (if k.toNat = 1 ∨ k.toNat = 2 then _ else _) = _
      rw [if_pos (.inl hkk), if_pos hkk]
    rw [hgb]
    by_cases hb : bytesErr 16 l 0 = 0
    · rw [if_pos hb]
      rw [q3 hb] at h2
      rw [← hn, ← h2]
      rw [hb] at g2
      subst g2
      cases b2 with
      | nil =>
        have a3 : e3 = 3 := by rw [g3]; exact r1_nil.2.2
        rcases hat with ⟨h, _⟩ | ⟨_, _, _, h⟩
        · omega
        · exact ⟨fun _ => by rw [h, a3]; rfl, fun h' => by omega⟩
      | cons c r =>
        obtain ⟨s1, s2, s3⟩ := r1_cons c r
        rw [s1] at hc
        rw [s2] at h3
        rw [s3] at g3
        subst h3
        have hP : getP nm (c :: b3) = if b3.length < 16 * c.toNat then (zero, 3) else fin ⟨1, nm, parse c.toNat b3, 0, 0, 0⟩ (b3.drop (16 * c.toNat)) := rfl
        rw [hP, ← hc]
        rcases hat with ⟨_, hat⟩ | ⟨h, _⟩
        · rcases hat with ⟨a1, a2, a3, a4⟩ | ⟨a1, a2, _⟩
          · have hin : i = n := by
              by_cases h : i < n
              · exact absurd ⟨h, a1⟩ hend
              · omega
            subst hin
            refine ⟨fun h => absurd a1 h, fun _ => ?_⟩
            rw [if_neg (by omega), a3, a4]
          · exact ⟨fun _ => by rw [if_pos a2, a1], fun h => by omega⟩
        · exact absurd g3 h
    · rw [if_neg hb]
      have a3 : e3 = e2 := by rw [g3, (show refErr 1 b2 e2 = e2 from (r_err (n := 1) (by rw [g2]; exact hb)).2.2)]
      rcases hat with ⟨h, _⟩ | ⟨_, _, _, h⟩
      · exact absurd (by rw [← g2, ← a3]; exact h) hb
      · exact ⟨fun _ => by rw [h, a3, g2], fun h' => absurd (by rw [← g2, ← a3, ← h]; exact h') hb⟩
end Go.Proofs.Ytemfohccnpopfaa.Ask
