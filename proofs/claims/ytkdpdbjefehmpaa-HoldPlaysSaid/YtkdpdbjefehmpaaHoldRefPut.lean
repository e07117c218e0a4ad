/-
  The walk of the reference's Put.
-/
import Derived.Test.YtkdpdbjefehmpaaHoldRefNew
import Derived.Test.YtkdpdbjefehmpaaAppNew
import Derived.Test.YtkdpdbjefehmpaaAreRefIO
import Derived.Test.YtkdpdbjefehmpaaBlkRefTake
import Derived.Test.YtkdpdbjefehmpaaCutB
namespace Go.Proofs.Ytkdpdbjefehmpaa.Hold
open Go.RowKit Base Go.Maps Arena
open Blocks (BlkR whole whole_le frees nints nvals tout took terr)

namespace HoldR
variable {w w' : World} {Own : Nat → Prop} {k ga g xg ob : Nat} {v : Value} {O : List Bool} {puts : Nat} {es : List Ent}
/-- its bools have turned -/
theorem took {O' : List Bool} (h : HoldR w Own k ga g xg ob v O puts es) (hf : Fr1 ob w w') (hb : BlkR w' 0 xg ob O') : HoldR w' Own k ga g xg ob v O' puts es := by
  refine ⟨hf.row h.obj h.ne.2, hb, Blocks.owns_fr hf h.row (fun b hb => (h.rows b hb).2.2.2), h.rows, fun e he => ?_, h.own, h.ne, h.rise, h.top⟩
  obtain ⟨⟨h1, h2⟩, h3, h4⟩ := h.lies e he
  exact ⟨⟨cuts_fr hf h1 (fun hT a ha => (h2 hT a ha).2.2.2.2.1), fun hT => (h2 hT).mono hf.size (fun _ _ h => h)⟩, ebytes_fr hf h3 (fun hx a ha => (h4 hx a ha).2.2.2.2.1), fun hx => (h4 hx).mono hf.size (fun _ _ h => h)⟩
/-- one more Put has been counted -/
theorem count (h : HoldR w Own k ga g xg ob v O puts es) : HoldR (w.setCell ⟨g, 4, none⟩ (.int .i64 ((puts : Int) + 1))) Own k ga g xg ob v O (puts + 1) es := by
  have hf : Fr1 g w (w.setCell ⟨g, 4, none⟩ (.int .i64 ((puts : Int) + 1))) := Fr.setCell (S := fun j => j = g) (p := ⟨g, 4, none⟩) (Fr.refl _ _) (fun _ => rfl) _
  refine ⟨(h.obj.set 4 _).congr (fun i hi => ?_), h.blk.fr hf (fun e => h.ne.1 e.symm) (fun e => h.ne.2 e.symm), Blocks.owns_fr hf h.row (fun b hb => (h.rows b hb).2.1), h.rows, fun e he => ?_, h.own, h.ne, h.rise, fun e he => by have := h.top e he; omega⟩
  · match i, hi with
    | 0, _ => rfl
    | 1, _ => rfl
    | 2, _ => rfl
    | 3, _ => rfl
    | 4, _ => simp
  · obtain ⟨⟨h1, h2⟩, h3, h4⟩ := h.lies e he
    exact ⟨⟨cuts_fr hf h1 (fun hT a ha => (h2 hT a ha).2.2.1), fun hT => (h2 hT).mono hf.size (fun _ _ h => h)⟩, ebytes_fr hf h3 (fun hx a ha => (h4 hx a ha).2.2.1), fun hx => (h4 hx).mono hf.size (fun _ _ h => h)⟩
/-- another row in the old one's place -/
theorem swap {es' : List Ent} {Own' : Nat → Prop} {v' : Value} (h : HoldR w Own k ga g xg ob v O puts es) (hf : Fr (fun b => v.ownBlock = some b) w w') (hrow : w'.ownsRow 0 90 3 v' es'.length (kcells es')) (hv : NewRow w v v') (ho : ∀ j, Own j → Own' j) (hnew : ∀ j, w.heap.size ≤ j → Own' j)
    (hl : ∀ e ∈ es', e ∈ es ∨ ((IntsIs w' e.cuts (nints e.T) ∧ (e.T ≠ [] → LiesR w' Own' g xg ob v' e.A)) ∧ (BytesIs w' e.bytes e.x ∧ (e.x ≠ [] → LiesR w' Own' g xg ob v' e.D)))) (hr : (ids es').Pairwise (· < ·)) (htop : ∀ e ∈ es', e.id ≤ (puts : Int)) : HoldR (w'.setCell ⟨g, 3, none⟩ v') Own' k ga g xg ob v' O puts es' := by
  obtain ⟨o1, o2, o3⟩ := h.own
  have g1 := h.g_lt
  have g2 := h.blk.g_lt
  have g3 := h.blk.ob_lt
  have hs : Fr1 g w' (w'.setCell ⟨g, 3, none⟩ v') := Fr.setCell (S := fun j => j = g) (p := ⟨g, 3, none⟩) (Fr.refl _ _) (fun _ => rfl) _
  have hrow' : ∀ b, v'.ownBlock = some b → Own' b ∧ b ≠ g ∧ b ≠ xg ∧ b ≠ ob := fun b hb => by
    rcases hv with hv | hv
    · rw [hv] at hb
      obtain ⟨h1, h2⟩ := h.rows b hb
      exact ⟨ho _ h1, h2⟩
    · have := hv b hb
      exact ⟨hnew _ this, by omega, by omega, by omega⟩
  have key : ∀ A, LiesR w Own g xg ob v A → LiesR w' Own' g xg ob v' A := fun A hA a ha => by
    obtain ⟨h1, h2, h3, h4, h5, h6⟩ := hA a ha
    refine ⟨ho _ h1, Nat.lt_of_lt_of_le h2 hf.size, h3, h4, h5, ?_⟩
    rcases hv with hv | hv
    · rw [hv]; exact h6
    · exact fun e => by have := hv _ e; omega
  have all : ∀ e ∈ es', (IntsIs w' e.cuts (nints e.T) ∧ (e.T ≠ [] → LiesR w' Own' g xg ob v' e.A)) ∧ (BytesIs w' e.bytes e.x ∧ (e.x ≠ [] → LiesR w' Own' g xg ob v' e.D)) := fun e he => by
    rcases hl e he with he | he
    · obtain ⟨⟨h1, h2⟩, h3, h4⟩ := h.lies e he
      exact ⟨⟨cuts_fr hf h1 (fun hT a ha => (h2 hT a ha).2.2.2.2.2), fun hT => key _ (h2 hT)⟩, ebytes_fr hf h3 (fun hx a ha => (h4 hx a ha).2.2.2.2.2), fun hx => key _ (h4 hx)⟩
    · exact he
  have n1 : v.ownBlock ≠ some g := fun e => (h.rows g e).2.1 rfl
  have n2 : v.ownBlock ≠ some xg := fun e => (h.rows xg e).2.2.1 rfl
  have n3 : v.ownBlock ≠ some ob := fun e => (h.rows ob e).2.2.2 rfl
  refine ⟨((hf.row h.obj n1).set 3 _).congr (fun i hi => ?_), (h.blk.fr hf n2 n3).fr hs (fun e => h.ne.1 e.symm) (fun e => h.ne.2 e.symm), Blocks.owns_fr hs hrow (fun b hb => (hrow' b hb).2.1), hrow', fun e he => ?_, ⟨ho _ o1, ho _ o2, ho _ o3⟩, h.ne, hr, htop⟩
  · match i, hi with
    | 0, _ => rfl
    | 1, _ => rfl
    | 2, _ => rfl
    | 3, _ => simp
    | 4, _ => rfl
  · obtain ⟨⟨h1, h2⟩, h3, h4⟩ := all e he
    exact ⟨⟨cuts_fr hs h1 (fun hT a ha => (h2 hT a ha).2.2.1), fun hT => (h2 hT).mono hs.size (fun _ _ h => h)⟩, ebytes_fr hs h3 (fun hx a ha => (h4 hx a ha).2.2.1), fun hx => (h4 hx).mono hs.size (fun _ _ h => h)⟩
end HoldR
theorem infoK : (Try.prog.info? 90).map (fun i => (i.zero, i.size, i.bytes)) = some (some (.agg #[.int .i64 0, .slice none 0 0, .slice none 0 0]), 3, 56) := by kernel_rfl
theorem kept_one (w : World) (c0 c1 c2 : Value) (t : TypeId) (N : Nat) (hN : N = w.heap.size) : ValsIs (w.alloc (.cells #[c0, c1, c2] t)) (.slice (some ⟨N, 0, none⟩) 1 1) 1 [c0, c1, c2] := by
  subst hN
  refine ⟨_, 1, w.heap.size, 0, rfl, Nat.le_refl _, fun _ => rfl, fun j hj => ?_⟩
  rw [cell_of_row _ _ _ _ _ _ (heap_alloc_new w _)]
  match j, hj with
  | 0, _ => rfl
  | 1, _ => rfl
  | 2, _ => rfl
def RPutPost (B ga pb cb : Nat) (L : List Int) (bs : List UInt8) (Own : Nat → Prop) (k g xg ob : Nat) (v : Value) (O : List Bool) (p : Nat) (es : List Ent) (x : List UInt8) (w : World) (e : Ending) (w' : World) : Prop :=
  Fr (fun j => Own j ∨ j = pb) w w' ∧
  ((need x.length ≤ (frees O).length ∧ ∃ v' d, e = .returned (.tuple #[.int .i64 ((p : Int) + 1), .int .i64 0]) ∧ d.id = (p : Int) + 1 ∧ d.x = x ∧ d.T = tout O (need x.length : Nat) ∧ HoldR w' (Grow Own w) k ga g xg ob v' (took O (need x.length : Nat)) (p + 1) (es ++ [d]) ∧
      AreR w' B ga pb cb L (puts L k (tout O (need x.length : Nat)) x (tout O (need x.length : Nat)).length bs)) ∨
   (¬ need x.length ≤ (frees O).length ∧ e = .returned (.tuple #[.int .i64 0, .int .i64 6]) ∧ HoldR w' (Grow Own w) k ga g xg ob v O p es ∧ AreR w' B ga pb cb L bs))
set_option maxRecDepth 100000 in
set_option maxHeartbeats 8000000 in
theorem rput_any (B ga pb cb : Nat) (L : List Int) (bs : List UInt8) (Own : Nat → Prop) (k g xg ob : Nat) (v : Value) (O : List Bool) (p : Nat) (es : List Ent) (x : List UInt8) (vb : Value) (w : World) (hx : x.length ≤ 65536) (hp : p ≤ 1000000) (hel : es.length ≤ 1000000) (hk : k < L.length)
    (hA : AreR w B ga pb cb L bs) (hO : ¬ Own ga ∧ ¬ Own pb ∧ ¬ Own cb) (h : HoldR w Own k ga g xg ob v O p es) (hb : BytesIs w vb x) (hv : x ≠ [] → ∀ a n c, vb = .slice (some a) n c → ¬ Own a.block ∧ a.block ≠ pb) :
    Calls Try.prog 20 #[ptr g, vb] w (RPutPost B ga pb cb L bs Own k g xg ob v O p es x w) := by
  have HA := Lib.hid hA
  have HH := Lib.hid h
  have HB := Lib.hid hb
  have HV := Lib.hid hv
  have HO := Lib.hid hO
  have c2 := h.c2
  have hln := hA.fits.n
  obtain ⟨a, c, qb, qo, rfl, hle, _, _⟩ := hb
  have hneed : ∀ wx, Calls Try.prog 40 #[.int .i64 (x.length : Int)] wx fun e w' => e = .returned (.int .i64 (need x.length : Nat)) ∧ w' = wx := fun wx => by
    have := Blocks.refNeed_any (x.length : Int) (by omega) wx
    rwa [needs_need] at this
  have hnd : need x.length ≤ 2048 := by unfold need; omega
  clear hA h hv hO
  unfold ptr
  go_enter Try.func20, Try.ntmps20
  go_wp2
  refine Mix.law (fun _ => True) [(.sure, 0), (.sure, 1), (.sure, 2), (.look, 3), (.sure, 4), (.sure, 5), (.look, 6), (.turn, 7), (.sure, 8), (.sure, 9), (.sure, 10), (.sure, 11), (.sure, 12)] (by kernel_rfl) (by kernel_rfl) trivial ?_
  simp only [List.map_cons, List.map_nil, Mix.nth_zero, Mix.nth_succ]
  repeat (first
    | (refine Mix.go_skipS (by exact Mix.wanted_no rfl rfl rfl rfl) ?_; go_frame)
    | (refine Mix.go_skipL (by exact Mix.wanted_no rfl rfl rfl rfl) ?_; go_frame)
    | (refine Mix.go_move (by first | exact Mix.wanted_none rfl | exact Mix.wanted_yes rfl rfl rfl) _ rfl _ (by first | (go_simp; done) | (go_simp; rfl)) ?_; go_frame)
    | (refine Mix.go_assign (by first | exact Mix.wanted_none rfl | exact Mix.wanted_yes rfl rfl rfl) _ rfl _ (by first | (go_simp; done) | (go_simp; rfl)) ?_; go_frame)
    | (refine Mix.go_sureW (by first | exact Mix.wanted_none rfl | exact Mix.wanted_yes rfl rfl rfl) _ (by rfl) (by rfl) _ (fun w' hC' => by go_wp2_with fail; refine Mix.stays ?_; go_frame; rfl) ?_; go_frame)
    | (refine Mix.go_lookW (by first | exact Mix.wanted_none rfl | exact Mix.wanted_yes rfl rfl rfl) _ (by rfl) (by rfl) _ (by go_wp2_with fail; refine Mix.stays ?_; go_frame; rfl) ?_; go_frame))
  refine Mix.go_lookW (by rfl) _ (by rfl) (by rfl) _ (by go_wp2_with fail; refine (hneed _).mono ?_; rintro e w1 ⟨rfl, rfl⟩; go_wp2; refine Mix.stays ?_; go_frame; rfl) ?_
  go_frame
  refine Mix.go_turn ?_
  go_wp2_with fail
  refine (Blocks.refTake_any 0 xg ob O (need x.length : Nat) ⟨by omega, by omega⟩ _ (HH.out.blk.fr0 (Fr.refl _ _).drew)).mono ?_
  rintro e w1 ⟨vt, rfl, hI, hN, hX, hF⟩
  by_cases hfit : need x.length ≤ (frees O).length
  · rw [Blocks.terr_ok hfit]
    have HH1 : Hid (HoldR w1 Own k ga g xg ob v (took O (need x.length : Nat)) p es) := Lib.hid ((HH.out.fr0 (Fr.refl _ _).drew).took hF hX)
    have HFO : Hid (Fr1 ob w w1) := Lib.hid ((Fr.refl _ _).drew.trans' hF)
    have HF1 : Hid (Fr (fun j => Own j ∨ j = pb) w w1) := Lib.hid ((Fr.refl _ _).drew.trans hF (fun i _ e => .inl (by have e' : i = ob := e; rw [e']; exact HH.out.own.2.2)))
    have HT0 : Hid (∀ i ∈ tout O (need x.length : Nat), i < O.length) := Lib.hid (fun i hi => (Blocks.tout_free hi).1)
    have hTl : (tout O (need x.length : Nat)).length = need x.length := by rw [Blocks.tout_ok hfit, List.length_take]; omega
    obtain ⟨A, C, tb, to, rfl, hTC, hTa, hTc⟩ := hI
    have HI : Hid (IntsIs w1 (.slice A (nints (tout O (need x.length : Nat))).length C) (nints (tout O (need x.length : Nat)))) := Lib.hid ⟨A, C, tb, to, rfl, hTC, hTa, hTc⟩
    have HN : Hid (∀ q, A = some q → w.heap.size ≤ q.block) := Lib.hid (fun q hq => by subst hq; exact hN q _ _ rfl)
    have HPB : Hid (∀ q, A = some q → q.block ≠ pb) := Lib.hid (fun q hq e => by have := HN.out q hq; have := HA.out.pb_lt; omega)
    generalize hTT : tout O (need x.length : Nat) = T at *
    have HTT := Lib.hid hTT
    rw [Blocks.nints_length] at *
    have HTA := Lib.hid hTa
    have HTC := Lib.hid hTc
    have HTL := Lib.hid hTl
    have hTn : T.length ≤ 2048 := by omega
    have HA1 : Hid (AreR w1 B ga pb cb L bs) := Lib.hid (by
      have o3 := HH.out.own.2.2
      obtain ⟨n1, n2, n3⟩ := HO.out
      exact HA.out.fr HFO.out (fun e => n1 (by have e' : ga = ob := e; rw [e']; exact o3)) (fun e => n2 (by have e' : pb = ob := e; rw [e']; exact o3)) (fun e => n3 (by have e' : cb = ob := e; rw [e']; exact o3)))
    have HB1 : Hid (BytesIs w1 (.slice a x.length c) x) := Lib.hid (bytes_fr HFO.out HB.out (fun hx0 p n c h e => (HV.out hx0 p n c h).1 (by have e' : p.block = ob := e; rw [e']; exact HH.out.own.2.2)))
    have HLI : Hid (T ≠ [] → LiesR w1 (Grow Own w) g xg ob v A) := Lib.hid (fun hT q hq => by
      have hpos : 0 < T.length := List.length_pos_iff.2 hT
      have h1 := HN.out q hq
      have h2 := World.block_lt_of_cell? w1 _ (HTC.out 0 hpos)
      have h3 := HTA.out hpos
      rw [hq] at h3
      cases h3
      have g1 := HH.out.g_lt
      have g2 := HH.out.blk.g_lt
      have g3 := HH.out.blk.ob_lt
      have h1' : w.heap.size ≤ tb := h1
      refine ⟨.inr h1, h2, ?_, ?_, ?_, fun e => ?_⟩
      · show tb ≠ g; omega
      · show tb ≠ xg; omega
      · show tb ≠ ob; omega
      · have h4 := (HH.out.row.lt tb e).2
        omega)
    clear hX hF hN hTC hTa hTc hTT hTl c2 HA
    go_wp2
    refine Mix.then_go trivial ?_
    repeat (first
      | (refine Mix.go_skipS (by exact Mix.wanted_no rfl rfl rfl rfl) ?_; go_frame)
      | (refine Mix.go_skipL (by exact Mix.wanted_no rfl rfl rfl rfl) ?_; go_frame)
      | (refine Mix.go_move (by first | exact Mix.wanted_none rfl | exact Mix.wanted_yes rfl rfl rfl) _ rfl _ (by first | (go_simp; done) | (go_simp; rfl)) ?_; go_frame)
      | (refine Mix.go_assign (by first | exact Mix.wanted_none rfl | exact Mix.wanted_yes rfl rfl rfl) _ rfl _ (by first | (go_simp; done) | (go_simp; rfl)) ?_; go_frame)
      | (refine Mix.go_sureW (by first | exact Mix.wanted_none rfl | exact Mix.wanted_yes rfl rfl rfl) _ (by rfl) (by rfl) _ (fun w' hC' => by go_wp2_with fail; refine Mix.stays ?_; go_frame; rfl) ?_; go_frame)
      | (refine Mix.go_lookW (by first | exact Mix.wanted_none rfl | exact Mix.wanted_yes rfl rfl rfl) _ (by rfl) (by rfl) _ (by go_wp2_with fail; refine Mix.stays ?_; go_frame; rfl) ?_; go_frame))
    refine Mix.go_end ?_
    go_wp2
    go_loopg [8] T.length (fun kx s wr => ∃ j : Nat, s = .int .i64 (j : Int) ∧ j ≤ T.length ∧ T.length - j ≤ kx ∧ Hid (AreR wr B ga pb cb L (puts L k T x j bs)) ∧ Hid (Fr1 pb w1 wr))
    case atStart => exact ⟨0, rfl, Nat.zero_le _, by omega, HA1, Lib.hid (Fr.refl _ _)⟩
    case round =>
      obtain ⟨j, rfl, hj, hgj, HAr, HFr⟩ := hrel
      have HHr : Hid (HoldR wr Own k ga g xg ob v (took O (need x.length : Nat)) p es) := Lib.hid (HH1.out.fr HFr.out (fun i h1 h2 => HO.out.2.1 (by have e' : i = pb := h2; rw [← e']; exact h1)))
      have HBr : Hid (BytesIs wr (.slice a x.length c) x) := Lib.hid (bytes_fr HFr.out HB1.out (fun hx0 p n c h e => (HV.out hx0 p n c h).2 e))
      by_cases hlt : j < T.length
      · obtain rfl := HTA.out (by omega)
        have d0 := (HFr.out.cell (p := ⟨tb, to + j, none⟩) (World.block_lt_of_cell? w1 _ (HTC.out j hlt)) (HPB.out ⟨tb, to, none⟩ rfl)).trans (HTC.out j hlt)
        rw [Blocks.nints_get T j (by omega)] at d0
        have hj32 : 32 * j ≤ x.length := by have := HTL.out; unfold need at this; omega
        have c0 := HHr.out.c0
        have c1 := HHr.out.c1
        have hml : min 32 (x.length - 32 * j) ≤ 32 := by omega
        have hT0 : T.getD j 0 ≤ 2048 := by
          have h1 := HT0.out (T.getD j 0) (by rw [List.getD_eq_getElem?_getD, List.getElem?_eq_getElem hlt]; exact List.getElem_mem _)
          have h2 := HH.out.blk.len
          omega
        have HPU : Hid (puts L k T x (j + 1) bs = wrote L (puts L k T x j bs) (k : Int) (32 * (T.getD j 0 : Int)) (piece x j)) := Lib.hid (by rw [Int.mul_comm]; rfl)
        have hpl : (piece x j).length = min 32 (x.length - 32 * j) := piece_length x j
        have hjl : (j : Int) < (T.length : Int) := by omega
        have hj0 : 0 ≤ (j : Int) := by omega
        by_cases hto : x.length < 32 * (j + 1)
        · have hto' : (x.length : Int) < 32 * ((j : Int) + 1) := by omega
          obtain ⟨A', hsl, hbp, hbA⟩ := cut_bytes (P := Try.prog) 32 5 Try.underlying32 (by kernel_rfl) HBr.out (32 * j) (32 * j + min 32 (x.length - 32 * j)) (by omega) (by omega) (32 * (j : Int)) ((x.length : Int)) (by omega) (by omega)
          rw [show 32 * j + min 32 (x.length - 32 * j) - 32 * j = min 32 (x.length - 32 * j) by omega] at hsl hbp
          have HBP : Hid (BytesIs wr (.slice A' (min 32 (x.length - 32 * j)) (c - 32 * j)) (piece x j)) := Lib.hid (by
            have e1 : (x.drop (32 * j)).take (min 32 (x.length - 32 * j)) = piece x j := by
              unfold piece
              rw [List.take_eq_take_iff, List.length_drop]
              omega
            rwa [e1] at hbp)
          generalize hY : T.getD j 0 = y at *
          generalize hM : min 32 (x.length - 32 * j) = m at *
          clear hbp hbA hY hM
          go_wp2
          refine Mix.law (fun _ => True) [(.sure, 0), (.sure, 1), (.sure, 2), (.look, 3), (.sure, 4), (.sure, 5), (.sure, 6), (.look, 7), (.sure, 8), (.sure, 9), (.sure, 10), (.look, 11), (.sure, 12), (.sure, 13), (.sure, 14), (.sure, 15), (.sure, 16), (.sure, 17), (.turn, 18)] (by kernel_rfl) (by kernel_rfl) trivial ?_
          simp only [List.map_cons, List.map_nil, Mix.nth_zero, Mix.nth_succ]
          repeat (first
            | (refine Mix.go_skipS (by exact Mix.wanted_no rfl rfl rfl rfl) ?_; go_frame)
            | (refine Mix.go_skipL (by exact Mix.wanted_no rfl rfl rfl rfl) ?_; go_frame)
            | (refine Mix.go_move (by first | exact Mix.wanted_none rfl | exact Mix.wanted_yes rfl rfl rfl) _ rfl _ (by first | (go_simp; done) | (go_simp; rfl)) ?_; go_frame)
            | (refine Mix.go_assign (by first | exact Mix.wanted_none rfl | exact Mix.wanted_yes rfl rfl rfl) _ rfl _ (by first | (go_simp; done) | (go_simp; rfl)) ?_; go_frame)
            | (refine Mix.go_sureW (by first | exact Mix.wanted_none rfl | exact Mix.wanted_yes rfl rfl rfl) _ (by rfl) (by rfl) _ (fun w' hC' => by go_wp2_with fail; refine Mix.stays ?_; go_frame; rfl) ?_; go_frame)
            | (refine Mix.go_lookW (by first | exact Mix.wanted_none rfl | exact Mix.wanted_yes rfl rfl rfl) _ (by rfl) (by rfl) _ (by go_wp2_with fail; refine Mix.stays ?_; go_frame; rfl) ?_; go_frame))
          refine Mix.go_turn ?_
          go_wp2_with fail
          refine (refWrite_any B ga pb cb L (puts L k T x j bs) (piece x j) (k : Int) (32 * (y : Int)) _ ⟨by omega, by omega⟩ ⟨by omega, by omega⟩ (by omega) _ (HAr.out.fr0 (Fr.refl _ _).drew) (HBP.out.fr0 (Fr.refl _ _).drew)).mono ?_
          rintro e w4 ⟨rfl, hA4, hF4⟩
          have HA4 : Hid (AreR w4 B ga pb cb L (puts L k T x (j + 1) bs)) := Lib.hid (by rw [HPU.out]; exact hA4)
          have HF4 : Hid (Fr1 pb w1 w4) := Lib.hid (HFr.out.trans' ((Fr.refl _ _).drew.trans' hF4))
          clear hA4 hF4 c0 c1 hsl d0
          go_wp2
          refine Mix.then_go trivial ?_
          refine Mix.go_end ?_
          go_wp2
          go_roundg (T.length - (j + 1))
          case measure => omega
          case rel => exact ⟨j + 1, by simp, by omega, by omega, HA4, HF4⟩
        · have hto' : ¬ (x.length : Int) < 32 * ((j : Int) + 1) := by omega
          obtain ⟨A', hsl, hbp, hbA⟩ := cut_bytes (P := Try.prog) 32 5 Try.underlying32 (by kernel_rfl) HBr.out (32 * j) (32 * j + min 32 (x.length - 32 * j)) (by omega) (by omega) (32 * (j : Int)) (32 * ((j : Int) + 1)) (by omega) (by omega)
          rw [show 32 * j + min 32 (x.length - 32 * j) - 32 * j = min 32 (x.length - 32 * j) by omega] at hsl hbp
          have HBP : Hid (BytesIs wr (.slice A' (min 32 (x.length - 32 * j)) (c - 32 * j)) (piece x j)) := Lib.hid (by
            have e1 : (x.drop (32 * j)).take (min 32 (x.length - 32 * j)) = piece x j := by
              unfold piece
              rw [List.take_eq_take_iff, List.length_drop]
              omega
            rwa [e1] at hbp)
          generalize hY : T.getD j 0 = y at *
          generalize hM : min 32 (x.length - 32 * j) = m at *
          clear hbp hbA hY hM
          go_wp2
          refine Mix.law (fun _ => True) [(.sure, 0), (.sure, 1), (.sure, 2), (.look, 3), (.sure, 4), (.sure, 5), (.sure, 6), (.look, 7), (.sure, 8), (.sure, 9), (.sure, 10), (.look, 11), (.sure, 12), (.sure, 13), (.sure, 14), (.sure, 15), (.sure, 16), (.sure, 17), (.turn, 18)] (by kernel_rfl) (by kernel_rfl) trivial ?_
          simp only [List.map_cons, List.map_nil, Mix.nth_zero, Mix.nth_succ]
          repeat (first
            | (refine Mix.go_skipS (by exact Mix.wanted_no rfl rfl rfl rfl) ?_; go_frame)
            | (refine Mix.go_skipL (by exact Mix.wanted_no rfl rfl rfl rfl) ?_; go_frame)
            | (refine Mix.go_move (by first | exact Mix.wanted_none rfl | exact Mix.wanted_yes rfl rfl rfl) _ rfl _ (by first | (go_simp; done) | (go_simp; rfl)) ?_; go_frame)
            | (refine Mix.go_assign (by first | exact Mix.wanted_none rfl | exact Mix.wanted_yes rfl rfl rfl) _ rfl _ (by first | (go_simp; done) | (go_simp; rfl)) ?_; go_frame)
            | (refine Mix.go_sureW (by first | exact Mix.wanted_none rfl | exact Mix.wanted_yes rfl rfl rfl) _ (by rfl) (by rfl) _ (fun w' hC' => by go_wp2_with fail; refine Mix.stays ?_; go_frame; rfl) ?_; go_frame)
            | (refine Mix.go_lookW (by first | exact Mix.wanted_none rfl | exact Mix.wanted_yes rfl rfl rfl) _ (by rfl) (by rfl) _ (by go_wp2_with fail; refine Mix.stays ?_; go_frame; rfl) ?_; go_frame))
          refine Mix.go_turn ?_
          go_wp2_with fail
          refine (refWrite_any B ga pb cb L (puts L k T x j bs) (piece x j) (k : Int) (32 * (y : Int)) _ ⟨by omega, by omega⟩ ⟨by omega, by omega⟩ (by omega) _ (HAr.out.fr0 (Fr.refl _ _).drew) (HBP.out.fr0 (Fr.refl _ _).drew)).mono ?_
          rintro e w4 ⟨rfl, hA4, hF4⟩
          have HA4 : Hid (AreR w4 B ga pb cb L (puts L k T x (j + 1) bs)) := Lib.hid (by rw [HPU.out]; exact hA4)
          have HF4 : Hid (Fr1 pb w1 w4) := Lib.hid (HFr.out.trans' ((Fr.refl _ _).drew.trans' hF4))
          clear hA4 hF4 c0 c1 hsl d0
          go_wp2
          refine Mix.then_go trivial ?_
          refine Mix.go_end ?_
          go_wp2
          go_roundg (T.length - (j + 1))
          case measure => omega
          case rel => exact ⟨j + 1, by simp, by omega, by omega, HA4, HF4⟩
      · obtain rfl : j = T.length := by omega
        have c4 := HHr.out.c4
        have df := HHr.out.obj.frozen 4
        have HH5 := Lib.hid HHr.out.count
        have hfg : Fr1 g wr (wr.setCell ⟨g, 4, none⟩ (.int .i64 ((p : Int) + 1))) := Fr.setCell (S := fun i => i = g) (p := ⟨g, 4, none⟩) (Fr.refl _ _) (fun _ => rfl) _
        have HF5 : Hid (Fr (fun i => i = pb ∨ i = g) w1 (wr.setCell ⟨g, 4, none⟩ (.int .i64 ((p : Int) + 1)))) := Lib.hid (Fr.setCell (S := fun i => i = pb ∨ i = g) (p := ⟨g, 4, none⟩) (HFr.out.mono (fun _ _ h => .inl h)) (fun _ => .inr rfl) _)
        have HA5 : Hid (AreR (wr.setCell ⟨g, 4, none⟩ (.int .i64 ((p : Int) + 1))) B ga pb cb L (puts L k T x T.length bs)) := Lib.hid (by
          obtain ⟨n1, n2, n3⟩ := HO.out
          have o1 := HH.out.own.1
          exact HAr.out.fr hfg (fun e => n1 (by have e' : ga = g := e; rw [e']; exact o1)) (fun e => n2 (by have e' : pb = g := e; rw [e']; exact o1)) (fun e => n3 (by have e' : cb = g := e; rw [e']; exact o1)))
        have HB5 : Hid (BytesIs (wr.setCell ⟨g, 4, none⟩ (.int .i64 ((p : Int) + 1))) (.slice a x.length c) x) := Lib.hid (bytes_fr hfg HBr.out (fun hx0 p n c h e => (HV.out hx0 p n c h).1 (by have e' : p.block = g := e; rw [e']; exact HH.out.own.1)))
        have HI5 : Hid (IntsIs (wr.setCell ⟨g, 4, none⟩ (.int .i64 ((p : Int) + 1))) (.slice A T.length C) (nints T)) := Lib.hid (cuts_fr (e := ⟨0, [], T, A, C, none, 0⟩) HF5.out HI.out (fun hT a ha => by
          have h1 := (HLI.out hT a ha).2.2.1
          have h2 := HPB.out a ha
          rintro (h3 | h3)
          · exact h2 h3
          · exact h1 h3))
        go_wp2
        clear c4 df hfg HAr HFr HHr HBr
        generalize wr.setCell ⟨g, 4, none⟩ (.int .i64 ((p : Int) + 1)) = w5 at *
        have c3 := HH5.out.c3
        have c4 := HH5.out.c4
        rw [show ((p + 1 : Nat) : Int) = (p : Int) + 1 by omega] at c4
        have hgl := HH5.out.g_lt
        refine Mix.law (fun W => W.cell? ⟨g, 3, none⟩ = some v ∧ W.cell? ⟨g, 4, none⟩ = some (.int .i64 ((p : Int) + 1))) [(.sure, 0), (.sure, 1), (.sure, 2), (.sure, 3), (.sure, 4), (.sure, 5), (.sure, 6), (.sure, 7), (.sure, 8), (.sure, 10), (.sure, 12), (.turn, 9), (.turn, 11), (.sure, 13), (.turn, 14), (.turn, 15), (.sure, 16), (.sure, 17), (.last, 18)] (by kernel_rfl) (by kernel_rfl) ⟨c3, c4⟩ ?_
        simp only [List.map_cons, List.map_nil, Mix.nth_zero, Mix.nth_succ]
        repeat (first
          | (refine Mix.go_skipS (by exact Mix.wanted_no rfl rfl rfl rfl) ?_; go_frame)
          | (refine Mix.go_skipL (by exact Mix.wanted_no rfl rfl rfl rfl) ?_; go_frame)
          | (refine Mix.go_move (by first | exact Mix.wanted_none rfl | exact Mix.wanted_yes rfl rfl rfl) _ rfl _ (by first | (go_simp; done) | (go_simp; rfl)) ?_; go_frame)
          | (refine Mix.go_assign (by first | exact Mix.wanted_none rfl | exact Mix.wanted_yes rfl rfl rfl) _ rfl _ (by first | (go_simp; done) | (go_simp; rfl)) ?_; go_frame)
          | (refine Mix.go_sureW (by first | exact Mix.wanted_none rfl | exact Mix.wanted_yes rfl rfl rfl) _ (by rfl) (by rfl) _ (fun w' hC' => by go_wp2_with fail; refine Mix.stays ?_; go_frame; rfl) ?_; go_frame)
          | (refine Mix.go_lookW (by first | exact Mix.wanted_none rfl | exact Mix.wanted_yes rfl rfl rfl) _ (by rfl) (by rfl) _ (by go_wp2_with fail; refine Mix.stays ?_; go_frame; rfl) ?_; go_frame))
        refine Mix.go_turn ?_
        go_wp2
        have HF6 := Lib.hid (((Fr.refl (fun _ => False) w5).drew).alloc (.cells #[] 5))
        refine Mix.then_go ⟨(HF6.out.cell (p := ⟨g, 3, none⟩) hgl (fun f => f)).trans c3, (HF6.out.cell (p := ⟨g, 4, none⟩) hgl (fun f => f)).trans c4⟩ ?_
        refine Mix.go_turn ?_
        go_wp2_with (refine wpList_append_bytes rfl (.tmp 74) (.tmp 75) 32 rfl w5.heap.size 5 Try.underlying32 info8 _ _ 0 [] x rfl rfl (owns_empty w5.drew _ _ (Nat.le_refl _) _ rfl) (HB5.out.fr0 HF6.out) (by omega) HF6.out.size ?_; intro v7 w7 hO7 hG7)
        rw [Nat.zero_add, List.nil_append] at hO7
        have HF7 : Hid (Fr0 w5 w7) := Lib.hid (HF6.out.grown hG7 (fun i hi e => by cases e; exact absurd hi (Nat.lt_irrefl _)))
        have HB7 := Lib.hid (BytesIs.own hO7)
        obtain ⟨D, E, rfl, hD⟩ := owns_form hO7
        have HD := Lib.hid hD
        clear hO7 hG7 hD
        refine Mix.then_go ⟨(HF7.out.cell (p := ⟨g, 3, none⟩) hgl (fun f => f)).trans c3, (HF7.out.cell (p := ⟨g, 4, none⟩) hgl (fun f => f)).trans c4⟩ ?_
        repeat (first
          | (refine Mix.go_skipS (by exact Mix.wanted_no rfl rfl rfl rfl) ?_; go_frame)
          | (refine Mix.go_skipL (by exact Mix.wanted_no rfl rfl rfl rfl) ?_; go_frame)
          | (refine Mix.go_move (by first | exact Mix.wanted_none rfl | exact Mix.wanted_yes rfl rfl rfl) _ rfl _ (by first | (go_simp; done) | (go_simp; rfl)) ?_; go_frame)
          | (refine Mix.go_assign (by first | exact Mix.wanted_none rfl | exact Mix.wanted_yes rfl rfl rfl) _ rfl _ (by first | (go_simp; done) | (go_simp; rfl)) ?_; go_frame)
          | (refine Mix.go_sureW (by first | exact Mix.wanted_none rfl | exact Mix.wanted_yes rfl rfl rfl) _ (by rfl) (by rfl) _ (fun w' hC' => by go_wp2_with fail; refine Mix.stays ?_; go_frame; rfl) ?_; go_frame)
          | (refine Mix.go_lookW (by first | exact Mix.wanted_none rfl | exact Mix.wanted_yes rfl rfl rfl) _ (by rfl) (by rfl) _ (by go_wp2_with fail; refine Mix.stays ?_; go_frame; rfl) ?_; go_frame))
        refine Mix.go_turn ?_
        go_wp2
        have HF8 : Hid (Fr0 w5 (w7.alloc (.cells #[.int .i64 ((p : Int) + 1), .slice D x.length E, .slice A T.length C] 90))) := Lib.hid (HF7.out.alloc _)
        refine Mix.then_go ⟨(HF8.out.cell (p := ⟨g, 3, none⟩) hgl (fun f => f)).trans c3, (HF8.out.cell (p := ⟨g, 4, none⟩) hgl (fun f => f)).trans c4⟩ ?_
        refine Mix.go_turn ?_
        go_wp2_with (refine wpList_append_valsN rfl (.tmp 69) (.tmp 79) 55 rfl 0 90 Try.underlying55 (.agg #[.int .i64 0, .slice none 0 0, .slice none 0 0]) 3 56 infoK rfl (by decide) _ _ es.length 1 (kcells es) [.int .i64 ((p : Int) + 1), .slice D x.length E, .slice A T.length C] rfl rfl (HH5.out.fr0 HF8.out).row (kept_one w7 _ _ _ _ _ rfl) (by decide) rfl (by intro u hu; simp at hu; rcases hu with rfl | rfl | rfl <;> rfl) (by unfold maxLen; omega) (by omega) (Nat.zero_le _) ?_; intro v9 w9 hO9 hG9 hN9)
        obtain ⟨A9, C9, rfl, _⟩ := owns_form hO9
        have hf9 : Fr (fun b => v.ownBlock = some b) w5 w9 := Fr.grown (HF8.out.zero (S := fun b => v.ownBlock = some b)) hG9 (fun i _ e => e)
        have HF9 := Lib.hid hf9
        have hn9 : NewRow w5 v (.slice A9 (es.length + 1) C9) := by
          rcases hN9 with h | h
          · exact .inl h
          · exact .inr fun b hb => Nat.le_trans HF8.out.size (h b hb)
        have hrow9 : w9.ownsRow 0 90 3 (.slice A9 (es.length + 1) C9) (es ++ [(⟨(p : Int) + 1, x, T, A, C, D, E⟩ : Ent)]).length (kcells (es ++ [⟨(p : Int) + 1, x, T, A, C, D, E⟩])) := by
          rw [kcells_append, List.length_append]
          exact hO9
        have HH9 : Hid (HoldR (w9.setCell ⟨g, 3, none⟩ (.slice A9 (es.length + 1) C9)) (Grow Own w) k ga g xg ob (.slice A9 (es.length + 1) C9) (took O (need x.length : Nat)) (p + 1) (es ++ [⟨(p : Int) + 1, x, T, A, C, D, E⟩])) := Lib.hid (by
          have hs1 := HF1.out.size
          have hs5 := HF5.out.size
          have hs7 := HF7.out.size
          have hs9 := hf9.size
          have nTK : T ≠ [] → ∀ q, A = some q → v.ownBlock ≠ some q.block := fun hT q hq => (HLI.out hT q hq).2.2.2.2.2
          have hsz7 : w7.heap.size ≤ w9.heap.size := by
            have h1 := hG9.size
            simp at h1
            omega
          refine HH5.out.swap hf9 hrow9 hn9 (fun j hj => .inl hj) (fun j hj => .inr (by omega)) (fun e he => ?_) ?_ (fun e he => ?_)
          · rcases List.mem_append.1 he with he | he
            · exact .inl he
            · obtain rfl : e = ⟨(p : Int) + 1, x, T, A, C, D, E⟩ := by simpa using he
              refine .inr ⟨⟨cuts_fr (e := ⟨(p : Int) + 1, x, T, A, C, D, E⟩) hf9 HI5.out nTK, fun hT q hq => ?_⟩, ?_, fun hx0 q hq => ?_⟩
              · obtain ⟨h1, h2, h3, h4, h5, h6⟩ := HLI.out hT q hq
                refine ⟨h1, by omega, h3, h4, h5, ?_⟩
                rcases hn9 with h | h
                · rw [h]; exact h6
                · exact fun e => by have := h _ e; omega
              · have hb9 : BytesIs w9 (.slice D x.length E) x := by
                  have hfz : Fr (fun b => v.ownBlock = some b) w7 w9 := Fr.grown (((Fr.refl (fun b => v.ownBlock = some b) w7)).alloc _) hG9 (fun i _ e => e)
                  refine bytes_fr hfz HB7.out (fun hx0 q n c hq e => ?_)
                  cases hq
                  have h1 := (HD.out q rfl).1
                  have h2 := (HH5.out.row.lt _ e).2
                  omega
                exact hb9
              · obtain ⟨h1, h2⟩ := HD.out q hq
                have g1 := HH5.out.g_lt
                have g2 := HH5.out.blk.g_lt
                have g3 := HH5.out.blk.ob_lt
                refine ⟨.inr (by omega), by omega, by omega, by omega, by omega, fun e => ?_⟩
                rcases hN9 with h | h
                · rw [h] at e
                  have := (HH5.out.row.lt _ e).2
                  omega
                · have := h _ e
                  simp at this
                  omega
          · unfold ids
            rw [List.map_append, List.pairwise_append]
            refine ⟨HH5.out.rise, by simp, fun a ha b hb => ?_⟩
            obtain ⟨a', ha', rfl⟩ := List.mem_map.1 ha
            obtain rfl : b = (p : Int) + 1 := by simpa using hb
            have := HH.out.top a' ha'
            omega
          · rcases List.mem_append.1 he with he | he
            · exact HH5.out.top e he
            · obtain rfl : e = ⟨(p : Int) + 1, x, T, A, C, D, E⟩ := by simpa using he
              show (p : Int) + 1 ≤ ((p + 1 : Nat) : Int)
              omega)
        have HE : Hid (RPutPost B ga pb cb L bs Own k g xg ob v O p es x w (.returned (.tuple #[.int .i64 ((p : Int) + 1), .int .i64 0])) (w9.setCell ⟨g, 3, none⟩ (.slice A9 (es.length + 1) C9))) := Lib.hid (by
          obtain ⟨o1, o2, o3⟩ := HH.out.own
          obtain ⟨n1, n2, n3⟩ := HO.out
          have ow : ∀ b, v.ownBlock = some b → Own b := fun b hb => (HH.out.rows b hb).1
          have hfb : Fr (fun i => Own i ∨ i = pb) w w5 := HF1.out.trans HF5.out (fun i _ h => by
            rcases h with h | h
            · exact .inr h
            · exact .inl (by rw [h]; exact o1))
          have hfc : Fr (fun i => Own i ∨ i = pb) w w9 := hfb.trans hf9 (fun i _ h => .inl (ow i h))
          refine ⟨Fr.setCell (p := ⟨g, 3, none⟩) hfc (fun _ => .inl o1) _, .inl ⟨hfit, (.slice A9 (es.length + 1) C9), ⟨(p : Int) + 1, x, T, A, C, D, E⟩, rfl, rfl, rfl, HTT.out.symm, ?_, ?_⟩⟩
          · exact HH9.out
          · rw [HTT.out]
            have hs : Fr1 g w9 (w9.setCell ⟨g, 3, none⟩ (.slice A9 (es.length + 1) C9)) := Fr.setCell (S := fun j => j = g) (p := ⟨g, 3, none⟩) (Fr.refl _ _) (fun _ => rfl) _
            exact (HA5.out.fr hf9 (fun e => n1 (ow _ e)) (fun e => n2 (ow _ e)) (fun e => n3 (ow _ e))).fr hs (fun e => n1 (by have e' : ga = g := e; rw [e']; exact o1)) (fun e => n2 (by have e' : pb = g := e; rw [e']; exact o1)) (fun e => n3 (by have e' : cb = g := e; rw [e']; exact o1)))
        have dg : w9.frozen? ⟨g, 3, none⟩ = false := (hf9.row HH5.out.obj (fun e => (HH5.out.rows g e).2.1 rfl)).frozen 3
        have n3 : v.ownBlock ≠ some g := fun e => (HH5.out.rows g e).2.1 rfl
        have k3 := (hf9.cell (p := ⟨g, 3, none⟩) hgl n3).trans c3
        have k4 := (hf9.cell (p := ⟨g, 4, none⟩) hgl n3).trans c4
        have c6 := HH9.out.c4
        rw [show ((p + 1 : Nat) : Int) = (p : Int) + 1 by omega] at c6
        clear hrow9 hn9 hf9 hO9 hG9 hN9
        refine Mix.then_go ⟨k3, k4⟩ ?_
        repeat (first
          | (refine Mix.go_skipS (by exact Mix.wanted_no rfl rfl rfl rfl) ?_; go_frame)
          | (refine Mix.go_skipL (by exact Mix.wanted_no rfl rfl rfl rfl) ?_; go_frame)
          | (refine Mix.go_move (by first | exact Mix.wanted_none rfl | exact Mix.wanted_yes rfl rfl rfl) _ rfl _ (by first | (go_simp; done) | (go_simp; rfl)) ?_; go_frame)
          | (refine Mix.go_assign (by first | exact Mix.wanted_none rfl | exact Mix.wanted_yes rfl rfl rfl) _ rfl _ (by first | (go_simp; done) | (go_simp; rfl)) ?_; go_frame)
          | (refine Mix.go_sureW (by first | exact Mix.wanted_none rfl | exact Mix.wanted_yes rfl rfl rfl) _ (by rfl) (by rfl) _ (fun w' hC' => by go_wp2_with fail; refine Mix.stays ?_; go_frame; rfl) ?_; go_frame)
          | (refine Mix.go_lookW (by first | exact Mix.wanted_none rfl | exact Mix.wanted_yes rfl rfl rfl) _ (by rfl) (by rfl) _ (by go_wp2_with fail; refine Mix.stays ?_; go_frame; rfl) ?_; go_frame))
        refine Mix.go_last ?_
        go_wp2
        refine Mix.then_go trivial ?_
        refine Mix.go_end ?_
        go_wp2
        go_ret2
        exact HE.out
  · rw [Blocks.terr_full (by omega) (by omega)]
    have HH1 : Hid (HoldR w1 (Grow Own w) k ga g xg ob v O p es) := Lib.hid (by
      have hb2 : BlkR w1 0 xg ob (took O (need x.length : Nat)) := hX
      rw [Blocks.took_bad (by rw [Blocks.terr_full (by omega) (by omega)]; decide)] at hb2
      exact ((HH.out.fr0 (Fr.refl _ _).drew).took hF hb2).mono (fun j _ h => .inl h))
    have HF1 : Hid (Fr1 ob w w1) := Lib.hid ((Fr.refl _ _).drew.trans' hF)
    obtain ⟨A, C, tb, to, rfl, _, _, _⟩ := hI
    have HE : Hid (RPutPost B ga pb cb L bs Own k g xg ob v O p es x w (.returned (.tuple #[.int .i64 0, .int .i64 6])) w1) := Lib.hid (by
      have o3 := HH.out.own.2.2
      refine ⟨HF1.out.mono (fun i _ e => .inl (by have e' : i = ob := e; rw [e']; exact o3)), .inr ⟨hfit, rfl, HH1.out, ?_⟩⟩
      obtain ⟨n1, n2, n3⟩ := HO.out
      exact HA.out.fr HF1.out (fun e => n1 (by have e' : ga = ob := e; rw [e']; exact o3)) (fun e => n2 (by have e' : pb = ob := e; rw [e']; exact o3)) (fun e => n3 (by have e' : cb = ob := e; rw [e']; exact o3)))
    clear hX hF hN c2
    go_wp2
    refine Mix.then_go trivial ?_
    repeat (first
      | (refine Mix.go_skipS (by exact Mix.wanted_no rfl rfl rfl rfl) ?_; go_frame)
      | (refine Mix.go_skipL (by exact Mix.wanted_no rfl rfl rfl rfl) ?_; go_frame)
      | (refine Mix.go_move (by first | exact Mix.wanted_none rfl | exact Mix.wanted_yes rfl rfl rfl) _ rfl _ (by first | (go_simp; done) | (go_simp; rfl)) ?_; go_frame)
      | (refine Mix.go_assign (by first | exact Mix.wanted_none rfl | exact Mix.wanted_yes rfl rfl rfl) _ rfl _ (by first | (go_simp; done) | (go_simp; rfl)) ?_; go_frame)
      | (refine Mix.go_sureW (by first | exact Mix.wanted_none rfl | exact Mix.wanted_yes rfl rfl rfl) _ (by rfl) (by rfl) _ (fun w' hC' => by go_wp2_with fail; refine Mix.stays ?_; go_frame; rfl) ?_; go_frame)
      | (refine Mix.go_lookW (by first | exact Mix.wanted_none rfl | exact Mix.wanted_yes rfl rfl rfl) _ (by rfl) (by rfl) _ (by go_wp2_with fail; refine Mix.stays ?_; go_frame; rfl) ?_; go_frame))
    refine Mix.go_end ?_
    go_wp2
    go_ret2
    exact HE.out
end Go.Proofs.Ytkdpdbjefehmpaa.Hold
